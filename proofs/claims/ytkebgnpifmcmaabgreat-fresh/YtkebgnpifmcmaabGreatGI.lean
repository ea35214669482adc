import Derived.Test.YtkebgnpifmcmaabGreatGK
import Derived.Test.YtkebgnpifmcmaabGreatGJ
import Derived.Test.YtkebgnpifmcmaabGreatGG
namespace Go.Proofs.YtkebgnpifmcmaabGreat
open Go.RowKit

/-- A pair and an error. -/
def PRes (a b c n : Int) (w : World) (e : Ending) (w' : World) : Prop := e = .returned (.tuple #[.agg #[.int .i64 a, .int .i64 b, .int .i64 c], .int .i64 n]) ∧ Below w.heap.size w w'

theorem pair_load {w : World} {g : Nat} {a b c : Int} (h : Blk w g 47 #[.int .i64 a, .int .i64 b, .int .i64 c]) : (loadVar 47 ⟨g, 0, none⟩).run Tryz.prog w = .ok (.agg #[.int .i64 a, .int .i64 b, .int .i64 c]) w :=
  run_loadVar_row _ g 47 47 _ (0, 0) _ h Tryz.underlying47 rfl infoPair

/-- What 'grow' is asked for. -/
def GrowQ (im : ByteArray) (lo hi bk c : Int) (side : Int) (a b d n : Int) : Prop :=
  (¬ Reads im ∧ a = 0 ∧ b = 0 ∧ d = 0 ∧ n = 4) ∨
  (Reads im ∧ ¬ (0 ≤ c ∧ c ≤ 255 ∧ PairOk (imT im).length lo hi bk) ∧ a = 0 ∧ b = 0 ∧ d = 0 ∧ n = 5) ∨
  (Reads im ∧ ∃ l u k b' : Nat, lo = (l : Int) ∧ hi = (u : Int) ∧ bk = (k : Int) ∧ c = (b' : Int) ∧ b' < 256 ∧ l ≤ u ∧ u ≤ (imT im).length + 1 ∧ k + (u - l) ≤ (imT im).length + 1 ∧ n = 0 ∧
    ((side = 0 ∧ ∃ f, IsSA (imT im) f ∧ leftV (imT im) f l u k b' = .agg #[.int .i64 a, .int .i64 b, .int .i64 d]) ∨
     (side = 1 ∧ ∃ f2, IsSA (imT im).reverse f2 ∧ rightV (imT im).reverse f2 l u k b' = .agg #[.int .i64 a, .int .i64 b, .int .i64 d])))

def GrowRes (im : ByteArray) (lo hi bk c : Int) (side : Int) (w : World) (e : Ending) (w' : World) : Prop := ∃ a b d n, GrowQ im lo hi bk c side a b d n ∧ PRes a b d n w e w'

set_option maxRecDepth 10000 in
set_option maxHeartbeats 1000000 in
theorem grow_any (im : ByteArray) (lo hi bk c : Int) (side : Int) (hside : side = 0 ∨ side = 1) (w : World) :
    Calls Tryz.prog 105 #[.string im, .agg #[.int .i64 lo, .int .i64 hi, .int .i64 bk], .int .i64 side, .int .i64 c] w (GrowRes im lo hi bk c side w) := by
  have hb0 : Below w.heap.size w ((w.alloc (.cells #[.int .i64 lo, .int .i64 hi, .int .i64 bk] 47)).alloc (.cells #[.int .i64 0, .int .i64 0, .int .i64 0] 47)) := ((Below.refl _ _).alloc (Nat.le_refl _) _).alloc (by simp) _
  have k0 := (Blk.new w 47 #[.int .i64 lo, .int .i64 hi, .int .i64 bk]).alloc (.cells #[.int .i64 0, .int .i64 0, .int .i64 0] 47)
  have k1 := Blk.new (w.alloc (.cells #[.int .i64 lo, .int .i64 hi, .int .i64 bk] 47)) 47 #[.int .i64 0, .int .i64 0, .int .i64 0]
  rw [show (w.alloc (.cells #[.int .i64 lo, .int .i64 hi, .int .i64 bk] 47)).heap.size = w.heap.size + 1 from by simp] at k1
  have HX : Hid _ := index_txt im ((w.alloc (.cells #[.int .i64 lo, .int .i64 hi, .int .i64 bk] 47)).alloc (.cells #[.int .i64 0, .int .i64 0, .int .i64 0] 47))
  have HSD : Hid (side = 0 ∨ side = 1) := hside
  clear hside
  go_enter Tryz.func105, Tryz.ntmps105
  go_wp2_with fail
  refine Calls.mono HX.out ?_
  clear HX
  rintro en w1 ⟨hres, hb1⟩
  have hl1 := k1.lt
  have hk2 := k1.below hb1 hl1
  have hk0 := k0.below hb1 (by omega)
  have hb2 := hb0.trans (hb1.mono hb0.size)
  clear k0 k1 hb0 hb1 hl1
  rcases hres with ⟨hR, g, f, f2, rfl, hIx⟩ | ⟨hR, rfl⟩
  case inr =>
    have HQ : Hid (GrowQ im lo hi bk c side 0 0 0 4) := .inl ⟨hR, rfl, rfl, rfl, rfl⟩
    clear hR
    have hf0 := hk2.free 0
    have hf1 := hk2.free 1
    have hf2 := hk2.free 2
    have e0 := hk2.cell 0
    have e1 := hk2.cell 1
    have e2 := hk2.cell 2
    go_wp2
    exact bodyPost_ret (v := .tuple #[.agg #[.int .i64 0, .int .i64 0, .int .i64 0], .int .i64 4]) (results_cell_tmp_row (ty := 47) rfl _ _ (w.heap.size + 1) _ (.int .i64 4) rfl rfl (pair_load (((hk2.set 0 _).set 1 _).set 2 _))) rfl ⟨_, _, _, _, HQ.out, rfl, ((hb2.setCell (by simp) _).setCell (by simp) _).setCell (by simp) _⟩
  case inl =>
    have HIX : Hid (IxT w1 g (imT im) (imR im) f f2) := hIx
    have HRD : Hid (Reads im) := hR
    clear hR hIx
    have HBY : Hid _ := isByte_any c w1
    go_wp2_with fail
    refine Calls.mono HBY.out ?_
    clear HBY
    rintro en w2 ⟨rfl, rfl⟩
    by_cases hcc : 0 ≤ c ∧ c ≤ 255
    case neg =>
      have HQ : Hid (GrowQ im lo hi bk c side 0 0 0 5) := .inr (.inl ⟨HRD.out, fun h => hcc ⟨h.1, h.2.1⟩, rfl, rfl, rfl, rfl⟩)
      rw [decide_eq_false hcc]
      clear hcc HIX HRD HSD
      have hf0 := hk2.free 0
      have hf1 := hk2.free 1
      have hf2 := hk2.free 2
      have e0 := hk2.cell 0
      have e1 := hk2.cell 1
      have e2 := hk2.cell 2
      go_wp2
      exact bodyPost_ret (v := .tuple #[.agg #[.int .i64 0, .int .i64 0, .int .i64 0], .int .i64 5]) (results_cell_tmp_row (ty := 47) rfl _ _ (w.heap.size + 1) _ (.int .i64 5) rfl rfl (pair_load (((hk2.set 0 _).set 1 _).set 2 _))) rfl ⟨_, _, _, _, HQ.out, rfl, ((hb2.setCell (by simp) _).setCell (by simp) _).setCell (by simp) _⟩
    case pos =>
      rw [decide_eq_true hcc]
      have p0 : w2.cell? ⟨w.heap.size, 0, none⟩ = some (.int .i64 lo) := hk0.cell 0
      have p1 : w2.cell? ⟨w.heap.size, 1, none⟩ = some (.int .i64 hi) := hk0.cell 1
      have p2 : w2.cell? ⟨w.heap.size, 2, none⟩ = some (.int .i64 bk) := hk0.cell 2
      have HIP : Hid _ := isPair_any HIX.out lo hi bk
      go_wp2_with fail
      refine Calls.mono HIP.out ?_
      clear HIP
      rintro en w3 ⟨hres, hb3⟩
      have hl2 := hk2.lt
      have hk3 := hk2.below hb3 hl2
      have hk03 := hk0.below hb3 (by omega)
      have hb4 := hb2.trans (hb3.mono hb2.size)
      have HIX3 : Hid (IxT w3 g (imT im) (imR im) f f2) := HIX.out.below hb3
      clear hk2 hk0 hb2 hb3 hl2 p0 p1 p2 HIX
      rcases hres with ⟨hp, rfl⟩ | ⟨hp, rfl⟩
      case inr =>
        have HQ : Hid (GrowQ im lo hi bk c side 0 0 0 5) := .inr (.inl ⟨HRD.out, fun h => hp h.2.2, rfl, rfl, rfl, rfl⟩)
        clear hp hcc HIX3 HRD HSD
        have hf0 := hk3.free 0
        have hf1 := hk3.free 1
        have hf2 := hk3.free 2
        have e0 := hk3.cell 0
        have e1 := hk3.cell 1
        have e2 := hk3.cell 2
        go_wp2
        exact bodyPost_ret (v := .tuple #[.agg #[.int .i64 0, .int .i64 0, .int .i64 0], .int .i64 5]) (results_cell_tmp_row (ty := 47) rfl _ _ (w.heap.size + 1) _ (.int .i64 5) rfl rfl (pair_load (((hk3.set 0 _).set 1 _).set 2 _))) rfl ⟨_, _, _, _, HQ.out, rfl, ((hb4.setCell (by simp) _).setCell (by simp) _).setCell (by simp) _⟩
      case inl =>
        obtain ⟨l, u, b, rfl, rfl, rfl, q1, q2, q3⟩ := hp.nat
        obtain ⟨cn, rfl⟩ : ∃ cn : Nat, c = (cn : Int) := ⟨c.toNat, by omega⟩
        have hcn : cn < 256 := by omega
        clear hp hcc
        have hcv : IntKind.u8.wrap (cn : Int) = (cn : Int) := by
          unfold IntKind.wrap
          simp only [show IntKind.u8.bits = 8 from rfl, show IntKind.u8.signed = false from rfl, Bool.false_and]
          simp; omega
        have HGR : Hid (∃ a b' d : Int, GrowQ im (l : Int) (u : Int) (b : Int) (cn : Int) side a b' d 0 ∧ Calls Tryz.prog 89 #[.pointer (some ⟨g, 0, none⟩), .agg #[.int .i64 (l : Int), .int .i64 (u : Int), .int .i64 (b : Int)], .int .i64 side, .int .u8 (cn : Int)] w3 fun en w' => en = .returned (.agg #[.int .i64 a, .int .i64 b', .int .i64 d]) ∧ Below w3.heap.size w3 w') := by
          rcases HSD.out with rfl | rfl
          · exact ⟨_, _, _, .inr (.inr ⟨HRD.out, l, u, b, cn, rfl, rfl, rfl, rfl, hcn, q1, q2, q3, rfl, .inl ⟨rfl, f, HIX3.out.1, rfl⟩⟩), grow_left HIX3.out l u b cn hcn q1 q2 q3⟩
          · exact ⟨_, _, _, .inr (.inr ⟨HRD.out, l, u, b, cn, rfl, rfl, rfl, rfl, hcn, q1, q2, q3, rfl, .inr ⟨rfl, f2, HIX3.out.2.1, rfl⟩⟩), grow_right HIX3.out l u b cn hcn q1 q2 q3⟩
        obtain ⟨a, b', d, hq, hg⟩ := HGR.out
        have HQ : Hid (GrowQ im (l : Int) (u : Int) (b : Int) (cn : Int) side a b' d 0) := hq
        have HC : Hid _ := hg
        clear hq hg HGR HIX3 HRD HSD
        have p0 : w3.cell? ⟨w.heap.size, 0, none⟩ = some (.int .i64 (l : Int)) := hk03.cell 0
        have p1 : w3.cell? ⟨w.heap.size, 1, none⟩ = some (.int .i64 (u : Int)) := hk03.cell 1
        have p2 : w3.cell? ⟨w.heap.size, 2, none⟩ = some (.int .i64 (b : Int)) := hk03.cell 2
        have hl3 := hk3.lt
        go_wp2_with fail
        refine Calls.mono HC.out ?_
        clear HC
        rintro en w4 ⟨rfl, hb5⟩
        have hk4 := hk3.below hb5 hl3
        have hb6 := hb4.trans (hb5.mono hb4.size)
        clear hk3 hk03 hb4 hb5 hl3 p0 p1 p2
        have hf0 := hk4.free 0
        have hf1 := hk4.free 1
        have hf2 := hk4.free 2
        have e0 := hk4.cell 0
        have e1 := hk4.cell 1
        have e2 := hk4.cell 2
        go_wp2
        exact bodyPost_ret (v := .tuple #[.agg #[.int .i64 a, .int .i64 b', .int .i64 d], .int .i64 0]) (results_cell_tmp_row (ty := 47) rfl _ _ (w.heap.size + 1) _ (.int .i64 0) rfl rfl (pair_load (((hk4.set 0 _).set 1 _).set 2 _))) rfl ⟨_, _, _, _, HQ.out, rfl, ((hb6.setCell (by simp) _).setCell (by simp) _).setCell (by simp) _⟩
end Go.Proofs.YtkebgnpifmcmaabGreat

namespace Go.Proofs.YtkebgnpifmcmaabGreat
open Go.RowKit

set_option maxRecDepth 10000 in
set_option maxHeartbeats 1000000 in
theorem left_any (im : ByteArray) (lo hi bk c : Int) (w : World) :
    Calls Tryz.prog 73 #[.string im, .agg #[.int .i64 lo, .int .i64 hi, .int .i64 bk], .int .i64 c] w (GrowRes im lo hi bk c 0 w) := by
  have hb0 : Below w.heap.size w ((w.alloc (.cells #[.int .i64 lo, .int .i64 hi, .int .i64 bk] 47)).alloc (.cells #[.int .i64 0, .int .i64 0, .int .i64 0] 47)) := ((Below.refl _ _).alloc (Nat.le_refl _) _).alloc (by simp) _
  have k1 := Blk.new (w.alloc (.cells #[.int .i64 lo, .int .i64 hi, .int .i64 bk] 47)) 47 #[.int .i64 0, .int .i64 0, .int .i64 0]
  rw [show (w.alloc (.cells #[.int .i64 lo, .int .i64 hi, .int .i64 bk] 47)).heap.size = w.heap.size + 1 from by simp] at k1
  have HX : Hid _ := grow_any im lo hi bk c 0 (.inl rfl) ((w.alloc (.cells #[.int .i64 lo, .int .i64 hi, .int .i64 bk] 47)).alloc (.cells #[.int .i64 0, .int .i64 0, .int .i64 0] 47))
  go_enter Tryz.func73, Tryz.ntmps73
  go_wp2_with fail
  refine Calls.mono HX.out ?_
  clear HX
  rintro en w1 ⟨a, b, d, n, hq, rfl, hb1⟩
  have HQ : Hid (GrowQ im lo hi bk c 0 a b d n) := hq
  clear hq
  have hk2 := k1.below hb1 k1.lt
  have hb2 := hb0.trans (hb1.mono hb0.size)
  clear k1 hb0 hb1
  have hf0 := hk2.free 0
  have hf1 := hk2.free 1
  have hf2 := hk2.free 2
  have e0 := hk2.cell 0
  have e1 := hk2.cell 1
  have e2 := hk2.cell 2
  go_wp2
  exact bodyPost_ret (v := .tuple #[.agg #[.int .i64 a, .int .i64 b, .int .i64 d], .int .i64 n]) (results_cell_tmp_row (ty := 47) rfl _ _ (w.heap.size + 1) _ (.int .i64 n) rfl rfl (pair_load (((hk2.set 0 _).set 1 _).set 2 _))) rfl ⟨_, _, _, _, HQ.out, rfl, ((hb2.setCell (by simp) _).setCell (by simp) _).setCell (by simp) _⟩

set_option maxRecDepth 10000 in
set_option maxHeartbeats 1000000 in
theorem right_any (im : ByteArray) (lo hi bk c : Int) (w : World) :
    Calls Tryz.prog 74 #[.string im, .agg #[.int .i64 lo, .int .i64 hi, .int .i64 bk], .int .i64 c] w (GrowRes im lo hi bk c 1 w) := by
  have hb0 : Below w.heap.size w ((w.alloc (.cells #[.int .i64 lo, .int .i64 hi, .int .i64 bk] 47)).alloc (.cells #[.int .i64 0, .int .i64 0, .int .i64 0] 47)) := ((Below.refl _ _).alloc (Nat.le_refl _) _).alloc (by simp) _
  have k1 := Blk.new (w.alloc (.cells #[.int .i64 lo, .int .i64 hi, .int .i64 bk] 47)) 47 #[.int .i64 0, .int .i64 0, .int .i64 0]
  rw [show (w.alloc (.cells #[.int .i64 lo, .int .i64 hi, .int .i64 bk] 47)).heap.size = w.heap.size + 1 from by simp] at k1
  have HX : Hid _ := grow_any im lo hi bk c 1 (.inr rfl) ((w.alloc (.cells #[.int .i64 lo, .int .i64 hi, .int .i64 bk] 47)).alloc (.cells #[.int .i64 0, .int .i64 0, .int .i64 0] 47))
  go_enter Tryz.func74, Tryz.ntmps74
  go_wp2_with fail
  refine Calls.mono HX.out ?_
  clear HX
  rintro en w1 ⟨a, b, d, n, hq, rfl, hb1⟩
  have HQ : Hid (GrowQ im lo hi bk c 1 a b d n) := hq
  clear hq
  have hk2 := k1.below hb1 k1.lt
  have hb2 := hb0.trans (hb1.mono hb0.size)
  clear k1 hb0 hb1
  have hf0 := hk2.free 0
  have hf1 := hk2.free 1
  have hf2 := hk2.free 2
  have e0 := hk2.cell 0
  have e1 := hk2.cell 1
  have e2 := hk2.cell 2
  go_wp2
  exact bodyPost_ret (v := .tuple #[.agg #[.int .i64 a, .int .i64 b, .int .i64 d], .int .i64 n]) (results_cell_tmp_row (ty := 47) rfl _ _ (w.heap.size + 1) _ (.int .i64 n) rfl rfl (pair_load (((hk2.set 0 _).set 1 _).set 2 _))) rfl ⟨_, _, _, _, HQ.out, rfl, ((hb2.setCell (by simp) _).setCell (by simp) _).setCell (by simp) _⟩

/-- What 'Rank' is asked for. -/
def RankQ (im : ByteArray) (c row : Int) (a b n : Int) : Prop :=
  (¬ Reads im ∧ a = 0 ∧ b = 0 ∧ n = 4) ∨
  (Reads im ∧ ¬ (0 ≤ c ∧ c ≤ 255 ∧ 0 ≤ row ∧ row ≤ ((imT im).length : Int) + 1) ∧ a = 0 ∧ b = 0 ∧ n = 5) ∨
  (Reads im ∧ ∃ b' r : Nat, c = (b' : Int) ∧ row = (r : Int) ∧ b' < 256 ∧ r ≤ (imT im).length + 1 ∧ n = 0 ∧ ∃ f, IsSA (imT im) f ∧ a = ((cntI (aheadV (imT im) f) b' r : Nat) : Int) ∧ b = ((lessI (aheadV (imT im) f) b' r : Nat) : Int))
def RankRes (im : ByteArray) (c row : Int) (w : World) (e : Ending) (w' : World) : Prop := ∃ a b n, RankQ im c row a b n ∧ e = .returned (.tuple #[.int .i64 a, .int .i64 b, .int .i64 n]) ∧ Below w.heap.size w w'

set_option maxRecDepth 10000 in
set_option maxHeartbeats 1000000 in
theorem rank_any (im : ByteArray) (c row : Int) (w : World) :
    Calls Tryz.prog 72 #[.string im, .int .i64 c, .int .i64 row] w (RankRes im c row w) := by
  have HX : Hid _ := index_txt im w
  go_enter Tryz.func72, Tryz.ntmps72
  go_wp2_with fail
  refine Calls.mono HX.out ?_
  clear HX
  rintro en w1 ⟨hres, hb1⟩
  rcases hres with ⟨hR, g, f, f2, rfl, hIx⟩ | ⟨hR, rfl⟩
  case inr =>
    have HQ : Hid (RankQ im c row 0 0 4) := .inl ⟨hR, rfl, rfl, rfl⟩
    clear hR
    go_wp2
    go_ret3
    exact ⟨_, _, _, HQ.out, rfl, hb1⟩
  case inl =>
    have HIX : Hid (IxT w1 g (imT im) (imR im) f f2) := hIx
    have HRD : Hid (Reads im) := hR
    have hn : (imT im).length ≤ 2000 := hIx.2.2.1
    have hg : w1.cell? ⟨g, 0, none⟩ ≠ none := by
      obtain ⟨_, _, _, _, _, c1, c2, m0, m1, m2, pl, base, hk, _⟩ := hIx
      have : w1.cell? ⟨g, 0, none⟩ = some c1 := hk.cell 0
      rw [this]; simp
    clear hR hIx
    have HBY : Hid _ := isByte_any c w1
    have HRW : Hid _ := side_rowsT HIX.out.side
    go_wp2_with fail
    refine Calls.mono HBY.out ?_
    clear HBY
    rintro en w2 ⟨rfl, rfl⟩
    by_cases hcc : 0 ≤ c ∧ c ≤ 255
    case neg =>
      have HQ : Hid (RankQ im c row 0 0 5) := .inr (.inl ⟨HRD.out, fun h => hcc ⟨h.1, h.2.1⟩, rfl, rfl, rfl⟩)
      rw [decide_eq_false hcc]
      clear hcc HIX HRD
      go_wp2
      go_ret3
      exact ⟨_, _, _, HQ.out, rfl, hb1⟩
    case pos =>
      rw [decide_eq_true hcc]
      by_cases hr0 : row < 0
      · have d0 : decide (row < 0) = true := by simpa using hr0
        have HQ : Hid (RankQ im c row 0 0 5) := .inr (.inl ⟨HRD.out, fun h => by have := h.2.2.1; omega, rfl, rfl, rfl⟩)
        clear hcc HIX HRD
        go_wp2
        go_ret3
        exact ⟨_, _, _, HQ.out, rfl, hb1⟩
      · have d0 : decide (row < 0) = false := by simpa using hr0
        go_wp2_with fail
        refine Calls.mono HRW.out ?_
        clear HRW
        rintro en w3 ⟨rfl, rfl⟩
        by_cases hr1 : ((imT im).length : Int) + 1 < row
        · have d1 : decide (((imT im).length : Int) + 1 < row) = true := by simpa using hr1
          have HQ : Hid (RankQ im c row 0 0 5) := .inr (.inl ⟨HRD.out, fun h => by have := h.2.2.2; omega, rfl, rfl, rfl⟩)
          clear hcc HIX HRD
          go_wp2
          go_ret3
          exact ⟨_, _, _, HQ.out, rfl, hb1⟩
        · have d1 : decide (((imT im).length : Int) + 1 < row) = false := by simpa using hr1
          obtain ⟨r, rfl⟩ : ∃ r : Nat, row = (r : Int) := ⟨row.toNat, by omega⟩
          obtain ⟨cn, rfl⟩ : ∃ cn : Nat, c = (cn : Int) := ⟨c.toNat, by omega⟩
          have hcn : cn < 256 := by omega
          have hrn : r ≤ (imT im).length + 1 := by omega
          have HQ : Hid (RankQ im (cn : Int) (r : Int) ((cntI (aheadV (imT im) f) cn r : Nat) : Int) ((lessI (aheadV (imT im) f) cn r : Nat) : Int) 0) := .inr (.inr ⟨HRD.out, cn, r, rfl, rfl, hcn, hrn, rfl, f, HIX.out.1, rfl, rfl⟩)
          have HRK : Hid _ := side_rankT HIX.out.side cn r hcn hrn
          have hcv : IntKind.u8.wrap (cn : Int) = (cn : Int) := by
            unfold IntKind.wrap
            simp only [show IntKind.u8.bits = 8 from rfl, show IntKind.u8.signed = false from rfl, Bool.false_and]
            simp; omega
          clear hcc HIX HRD
          go_wp2_with fail
          refine Calls.mono HRK.out ?_
          clear HRK
          rintro en w4 ⟨rfl, hb2⟩
          have hb3 := hb1.trans (hb2.mono hb1.size)
          clear hb1 hb2
          generalize ((cntI (aheadV (imT im) f) cn r : Nat) : Int) = A at *
          generalize ((lessI (aheadV (imT im) f) cn r : Nat) : Int) = B at *
          go_wp2
          go_ret3
          exact ⟨_, _, _, HQ.out, rfl, hb3⟩
end Go.Proofs.YtkebgnpifmcmaabGreat

namespace Go.Proofs.YtkebgnpifmcmaabGreat
open Go.RowKit

theorem imT_le {im : ByteArray} (h : Reads im) (w : World) : (imT im).length ≤ 2000 := (reads_isImg h w).2.1

theorem refRank_of {im s : ByteArray} {c row a b n : Int} (hR : Reads im) (ht : imT im = tx s) (hQ : RankQ im c row a b n) (w : World) :
    Calls Tryz.prog 75 #[.string s, .int .i64 c, .int .i64 row] w fun e w' => e = .returned (.tuple #[.int .i64 a, .int .i64 b, .int .i64 n]) ∧ Below w.heap.size w w' := by
  have hn := imT_le hR w
  rw [ht, tx_length] at hn
  rcases hQ with ⟨h, _⟩ | ⟨_, h, rfl, rfl, rfl⟩ | ⟨_, b', r, rfl, rfl, hb', hr, rfl, f, F, rfl, rfl⟩
  · exact absurd hR h
  · rw [ht, tx_length] at h
    exact (refRank_bad s c row w hn h).mono (fun e w' hh => ⟨hh.1, hh.2 ▸ Below.refl _ _⟩)
  · rw [ht] at F hr ⊢
    rw [tx_length] at hr
    refine (refRank_ok s b' r w hn hb' hr).mono ?_
    rintro e w' ⟨f', F', rfl, hb⟩
    obtain ⟨q1, q2⟩ := mv_congr F' F b' r (by rw [tx_length]; exact hr)
    exact ⟨by rw [q1, q2], hb⟩
theorem refLeft_of {im s : ByteArray} {lo hi bk c a b d n : Int} (hR : Reads im) (ht : imT im = tx s) (hQ : GrowQ im lo hi bk c 0 a b d n) (w : World) :
    Calls Tryz.prog 76 #[.string s, .agg #[.int .i64 lo, .int .i64 hi, .int .i64 bk], .int .i64 c] w (PRes a b d n w) := by
  have hn := imT_le hR w
  rw [ht, tx_length] at hn
  rcases hQ with ⟨h, _⟩ | ⟨_, h, rfl, rfl, rfl, rfl⟩ | ⟨_, l, u, k, b', rfl, rfl, rfl, rfl, q0, q1, q2, q3, rfl, ⟨_, f, F, hv⟩ | ⟨h, _⟩⟩
  · exact absurd hR h
  · rw [ht, tx_length] at h
    exact (refLeft_bad s lo hi bk c w hn h).mono (fun e w' hh => ⟨hh.1, hh.2⟩)
  · rw [ht] at F hv q2 q3
    rw [tx_length] at q2 q3
    refine (refLeft_ok s l u k b' w hn q0 q1 q2 q3 f F).mono ?_
    rintro e w' ⟨rfl, hb⟩
    exact ⟨by rw [hv], hb⟩
  · exact absurd h (by decide)
theorem refRight_of {im s : ByteArray} {lo hi bk c a b d n : Int} (hR : Reads im) (ht : imT im = tx s) (hQ : GrowQ im lo hi bk c 1 a b d n) (w : World) :
    Calls Tryz.prog 77 #[.string s, .agg #[.int .i64 lo, .int .i64 hi, .int .i64 bk], .int .i64 c] w (PRes a b d n w) := by
  have hn := imT_le hR w
  rw [ht, tx_length] at hn
  rcases hQ with ⟨h, _⟩ | ⟨_, h, rfl, rfl, rfl, rfl⟩ | ⟨_, l, u, k, b', rfl, rfl, rfl, rfl, q0, q1, q2, q3, rfl, ⟨h, _⟩ | ⟨_, f, F, hv⟩⟩
  · exact absurd hR h
  · rw [ht, tx_length] at h
    exact (refRight_bad s lo hi bk c w hn h).mono (fun e w' hh => ⟨hh.1, hh.2⟩)
  · exact absurd h (by decide)
  · rw [ht] at F hv q2 q3
    rw [tx_length] at q2 q3
    refine (refRight_ok s l u k b' w hn q0 q1 q2 q3 f F).mono ?_
    rintro e w' ⟨rfl, hb⟩
    exact ⟨by rw [hv], hb⟩

set_option maxRecDepth 10000 in
set_option maxHeartbeats 1000000 in
theorem ranked_no (im s : ByteArray) (lo hi bk c row : Int) (w : World) (hR : ¬ Reads im) :
    Calls Tryz.prog 51 #[.string im, .string s, .bool false, .agg #[.int .i64 lo, .int .i64 hi, .int .i64 bk], .int .i64 c, .int .i64 row] w fun e w' => e = .returned (.bool true) ∧ Below w.heap.size w w' := by
  have hb0 : Below w.heap.size w (w.alloc (.cells #[.int .i64 lo, .int .i64 hi, .int .i64 bk] 47)) := (Below.refl _ _).alloc (Nat.le_refl _) _
  have k0 := Blk.new w 47 #[.int .i64 lo, .int .i64 hi, .int .i64 bk]
  have HRK : Hid (∀ w, Calls Tryz.prog 72 #[.string im, .int .i64 c, .int .i64 row] w fun e w' => e = .returned (.tuple #[.int .i64 0, .int .i64 0, .int .i64 4]) ∧ Below w.heap.size w w') := fun w => (rank_any im c row w).mono (fun e w' ⟨a, b, n, hq, he, hb⟩ => by
    rcases hq with ⟨_, rfl, rfl, rfl⟩ | ⟨h, _⟩ | ⟨h, _⟩
    · exact ⟨he, hb⟩
    · exact absurd h hR
    · exact absurd h hR)
  have HL : Hid (∀ w, Calls Tryz.prog 73 #[.string im, .agg #[.int .i64 lo, .int .i64 hi, .int .i64 bk], .int .i64 c] w (PRes 0 0 0 4 w)) := fun w => (left_any im lo hi bk c w).mono (fun e w' ⟨a, b, d, n, hq, hp⟩ => by
    rcases hq with ⟨_, rfl, rfl, rfl, rfl⟩ | ⟨h, _⟩ | ⟨h, _⟩
    · exact hp
    · exact absurd h hR
    · exact absurd h hR)
  have HRT : Hid (∀ w, Calls Tryz.prog 74 #[.string im, .agg #[.int .i64 lo, .int .i64 hi, .int .i64 bk], .int .i64 c] w (PRes 0 0 0 4 w)) := fun w => (right_any im lo hi bk c w).mono (fun e w' ⟨a, b, d, n, hq, hp⟩ => by
    rcases hq with ⟨_, rfl, rfl, rfl, rfl⟩ | ⟨h, _⟩ | ⟨h, _⟩
    · exact hp
    · exact absurd h hR
    · exact absurd h hR)
  clear hR
  go_enter Tryz.func51, Tryz.ntmps51
  go_wp2_with fail
  refine Calls.mono (HRK.out _) ?_
  clear HRK
  rintro en w1 ⟨rfl, hb1⟩
  have hk1 := k0.below hb1 k0.lt
  have hb2 := hb0.trans (hb1.mono hb0.size)
  clear k0 hb0 hb1
  have p0 : w1.cell? ⟨w.heap.size, 0, none⟩ = some (.int .i64 lo) := hk1.cell 0
  have p1 : w1.cell? ⟨w.heap.size, 1, none⟩ = some (.int .i64 hi) := hk1.cell 1
  have p2 : w1.cell? ⟨w.heap.size, 2, none⟩ = some (.int .i64 bk) := hk1.cell 2
  have hl1 := hk1.lt
  go_wp2_with fail
  refine Calls.mono (HL.out _) ?_
  clear HL p0 p1 p2
  rintro en w2 ⟨rfl, hb3⟩
  have hk2 := (hk1.below hb3 hl1).alloc (.cells #[.int .i64 0, .int .i64 0, .int .i64 0] 47)
  have hA := Blk.new w2 47 #[.int .i64 0, .int .i64 0, .int .i64 0]
  have hb4 := (hb2.trans (hb3.mono hb2.size)).alloc (hb2.trans (hb3.mono hb2.size)).size (.cells #[.int .i64 0, .int .i64 0, .int .i64 0] 47)
  clear hk1 hb2 hb3 hl1
  have p0 : (w2.alloc (.cells #[.int .i64 0, .int .i64 0, .int .i64 0] 47)).cell? ⟨w.heap.size, 0, none⟩ = some (.int .i64 lo) := hk2.cell 0
  have p1 : (w2.alloc (.cells #[.int .i64 0, .int .i64 0, .int .i64 0] 47)).cell? ⟨w.heap.size, 1, none⟩ = some (.int .i64 hi) := hk2.cell 1
  have p2 : (w2.alloc (.cells #[.int .i64 0, .int .i64 0, .int .i64 0] 47)).cell? ⟨w.heap.size, 2, none⟩ = some (.int .i64 bk) := hk2.cell 2
  go_wp2_with fail
  generalize w2.alloc (.cells #[.int .i64 0, .int .i64 0, .int .i64 0] 47) = W2 at *
  generalize w2.heap.size = gA at *
  refine Calls.mono (HRT.out _) ?_
  clear HRT p0 p1 p2
  rintro en w3 ⟨rfl, hb5⟩
  have hA3 := (hA.below hb5 hA.lt).alloc (.cells #[.int .i64 0, .int .i64 0, .int .i64 0] 47)
  have hB := Blk.new w3 47 #[.int .i64 0, .int .i64 0, .int .i64 0]
  have hb6 := (hb4.trans (hb5.mono hb4.size)).alloc (hb4.trans (hb5.mono hb4.size)).size (.cells #[.int .i64 0, .int .i64 0, .int .i64 0] 47)
  clear hk2 hA hb4 hb5
  have q0 : (w3.alloc (.cells #[.int .i64 0, .int .i64 0, .int .i64 0] 47)).cell? ⟨gA, 0, none⟩ = some (.int .i64 0) := hA3.cell 0
  have q1 : (w3.alloc (.cells #[.int .i64 0, .int .i64 0, .int .i64 0] 47)).cell? ⟨gA, 1, none⟩ = some (.int .i64 0) := hA3.cell 1
  have q2 : (w3.alloc (.cells #[.int .i64 0, .int .i64 0, .int .i64 0] 47)).cell? ⟨gA, 2, none⟩ = some (.int .i64 0) := hA3.cell 2
  go_wp2
  go_ret
  exact ⟨rfl, hb6⟩

set_option maxRecDepth 10000 in
set_option maxHeartbeats 2000000 in
theorem ranked_yes (im s : ByteArray) (lo hi bk c row : Int) (w : World) (hR : Reads im) (ht : imT im = tx s) :
    Calls Tryz.prog 51 #[.string im, .string s, .bool true, .agg #[.int .i64 lo, .int .i64 hi, .int .i64 bk], .int .i64 c, .int .i64 row] w fun e w' => e = .returned (.bool true) ∧ Below w.heap.size w w' := by
  have hb0 : Below w.heap.size w (w.alloc (.cells #[.int .i64 lo, .int .i64 hi, .int .i64 bk] 47)) := (Below.refl _ _).alloc (Nat.le_refl _) _
  have k0 := Blk.new w 47 #[.int .i64 lo, .int .i64 hi, .int .i64 bk]
  have HRK : Hid (∀ w, Calls Tryz.prog 72 #[.string im, .int .i64 c, .int .i64 row] w fun e w' => ∃ a b n, e = .returned (.tuple #[.int .i64 a, .int .i64 b, .int .i64 n]) ∧ Below w.heap.size w w' ∧ Hid (∀ w, Calls Tryz.prog 75 #[.string s, .int .i64 c, .int .i64 row] w fun e w' => e = .returned (.tuple #[.int .i64 a, .int .i64 b, .int .i64 n]) ∧ Below w.heap.size w w')) := fun w => (rank_any im c row w).mono (fun e w' ⟨a, b, n, hq, he, hb⟩ => ⟨a, b, n, he, hb, fun w => refRank_of hR ht hq w⟩)
  have HL : Hid (∀ w, Calls Tryz.prog 73 #[.string im, .agg #[.int .i64 lo, .int .i64 hi, .int .i64 bk], .int .i64 c] w fun e w' => ∃ a b d n, PRes a b d n w e w' ∧ Hid (∀ w, Calls Tryz.prog 76 #[.string s, .agg #[.int .i64 lo, .int .i64 hi, .int .i64 bk], .int .i64 c] w (PRes a b d n w))) := fun w => (left_any im lo hi bk c w).mono (fun e w' ⟨a, b, d, n, hq, hp⟩ => ⟨a, b, d, n, hp, fun w => refLeft_of hR ht hq w⟩)
  have HRT : Hid (∀ w, Calls Tryz.prog 74 #[.string im, .agg #[.int .i64 lo, .int .i64 hi, .int .i64 bk], .int .i64 c] w fun e w' => ∃ a b d n, PRes a b d n w e w' ∧ Hid (∀ w, Calls Tryz.prog 77 #[.string s, .agg #[.int .i64 lo, .int .i64 hi, .int .i64 bk], .int .i64 c] w (PRes a b d n w))) := fun w => (right_any im lo hi bk c w).mono (fun e w' ⟨a, b, d, n, hq, hp⟩ => ⟨a, b, d, n, hp, fun w => refRight_of hR ht hq w⟩)
  clear hR ht
  go_enter Tryz.func51, Tryz.ntmps51
  go_wp2_with fail
  refine Calls.mono (HRK.out _) ?_
  clear HRK
  rintro en w1 ⟨a, b, n, rfl, hb1, HRR⟩
  have hk1 := k0.below hb1 k0.lt
  have hb2 := hb0.trans (hb1.mono hb0.size)
  clear k0 hb0 hb1
  have p0 : w1.cell? ⟨w.heap.size, 0, none⟩ = some (.int .i64 lo) := hk1.cell 0
  have p1 : w1.cell? ⟨w.heap.size, 1, none⟩ = some (.int .i64 hi) := hk1.cell 1
  have p2 : w1.cell? ⟨w.heap.size, 2, none⟩ = some (.int .i64 bk) := hk1.cell 2
  have hl1 := hk1.lt
  go_wp2_with fail
  refine Calls.mono (HL.out _) ?_
  clear HL p0 p1 p2
  rintro en w2 ⟨la, lb, ld, ln, ⟨rfl, hb3⟩, HLR⟩
  have hk2 := (hk1.below hb3 hl1).alloc (.cells #[.int .i64 la, .int .i64 lb, .int .i64 ld] 47)
  have hA := Blk.new w2 47 #[.int .i64 la, .int .i64 lb, .int .i64 ld]
  have hb4 := (hb2.trans (hb3.mono hb2.size)).alloc (hb2.trans (hb3.mono hb2.size)).size (.cells #[.int .i64 la, .int .i64 lb, .int .i64 ld] 47)
  clear hk1 hb2 hb3 hl1
  have p0 : (w2.alloc (.cells #[.int .i64 la, .int .i64 lb, .int .i64 ld] 47)).cell? ⟨w.heap.size, 0, none⟩ = some (.int .i64 lo) := hk2.cell 0
  have p1 : (w2.alloc (.cells #[.int .i64 la, .int .i64 lb, .int .i64 ld] 47)).cell? ⟨w.heap.size, 1, none⟩ = some (.int .i64 hi) := hk2.cell 1
  have p2 : (w2.alloc (.cells #[.int .i64 la, .int .i64 lb, .int .i64 ld] 47)).cell? ⟨w.heap.size, 2, none⟩ = some (.int .i64 bk) := hk2.cell 2
  go_wp2_with fail
  generalize w2.alloc (.cells #[.int .i64 la, .int .i64 lb, .int .i64 ld] 47) = W2 at *
  generalize w2.heap.size = gA at *
  refine Calls.mono (HRT.out _) ?_
  clear HRT p0 p1 p2
  rintro en w3 ⟨ra, rb, rd, rn, ⟨rfl, hb5⟩, HTR⟩
  have hA3 := (hA.below hb5 hA.lt).alloc (.cells #[.int .i64 ra, .int .i64 rb, .int .i64 rd] 47)
  have hk3 := (hk2.below hb5 hk2.lt).alloc (.cells #[.int .i64 ra, .int .i64 rb, .int .i64 rd] 47)
  have hB := Blk.new w3 47 #[.int .i64 ra, .int .i64 rb, .int .i64 rd]
  have hb6 := (hb4.trans (hb5.mono hb4.size)).alloc (hb4.trans (hb5.mono hb4.size)).size (.cells #[.int .i64 ra, .int .i64 rb, .int .i64 rd] 47)
  clear hk2 hA hb4 hb5
  go_wp2_with fail
  generalize w3.alloc (.cells #[.int .i64 ra, .int .i64 rb, .int .i64 rd] 47) = W3 at *
  generalize w3.heap.size = gB at *
  refine Calls.mono (HRR.out _) ?_
  clear HRR
  rintro en w4 ⟨rfl, hb7⟩
  have hA4 := hA3.below hb7 hA3.lt
  have hk4 := hk3.below hb7 hk3.lt
  have hB4 := hB.below hb7 hB.lt
  have hb8 := hb6.trans (hb7.mono hb6.size)
  clear hA3 hk3 hB hb6 hb7
  have p0 : w4.cell? ⟨w.heap.size, 0, none⟩ = some (.int .i64 lo) := hk4.cell 0
  have p1 : w4.cell? ⟨w.heap.size, 1, none⟩ = some (.int .i64 hi) := hk4.cell 1
  have p2 : w4.cell? ⟨w.heap.size, 2, none⟩ = some (.int .i64 bk) := hk4.cell 2
  go_wp2_with fail
  refine Calls.mono (HLR.out _) ?_
  clear HLR p0 p1 p2
  rintro en w5 ⟨rfl, hb9⟩
  have hA5 := (hA4.below hb9 hA4.lt).alloc (.cells #[.int .i64 la, .int .i64 lb, .int .i64 ld] 47)
  have hB5 := (hB4.below hb9 hB4.lt).alloc (.cells #[.int .i64 la, .int .i64 lb, .int .i64 ld] 47)
  have hk5 := (hk4.below hb9 hk4.lt).alloc (.cells #[.int .i64 la, .int .i64 lb, .int .i64 ld] 47)
  have hC5 := Blk.new w5 47 #[.int .i64 la, .int .i64 lb, .int .i64 ld]
  have hb10 := (hb8.trans (hb9.mono hb8.size)).alloc (hb8.trans (hb9.mono hb8.size)).size (.cells #[.int .i64 la, .int .i64 lb, .int .i64 ld] 47)
  clear hA4 hB4 hk4 hb8 hb9
  have p0 : (w5.alloc (.cells #[.int .i64 la, .int .i64 lb, .int .i64 ld] 47)).cell? ⟨w.heap.size, 0, none⟩ = some (.int .i64 lo) := hk5.cell 0
  have p1 : (w5.alloc (.cells #[.int .i64 la, .int .i64 lb, .int .i64 ld] 47)).cell? ⟨w.heap.size, 1, none⟩ = some (.int .i64 hi) := hk5.cell 1
  have p2 : (w5.alloc (.cells #[.int .i64 la, .int .i64 lb, .int .i64 ld] 47)).cell? ⟨w.heap.size, 2, none⟩ = some (.int .i64 bk) := hk5.cell 2
  go_wp2_with fail
  generalize w5.alloc (.cells #[.int .i64 la, .int .i64 lb, .int .i64 ld] 47) = W5 at *
  generalize w5.heap.size = gC at *
  refine Calls.mono (HTR.out _) ?_
  clear HTR p0 p1 p2
  rintro en w6 ⟨rfl, hb11⟩
  have hA6 := (hA5.below hb11 hA5.lt).alloc (.cells #[.int .i64 ra, .int .i64 rb, .int .i64 rd] 47)
  have hB6 := (hB5.below hb11 hB5.lt).alloc (.cells #[.int .i64 ra, .int .i64 rb, .int .i64 rd] 47)
  have hC6 := (hC5.below hb11 hC5.lt).alloc (.cells #[.int .i64 ra, .int .i64 rb, .int .i64 rd] 47)
  have hb12 := (hb10.trans (hb11.mono hb10.size)).alloc (hb10.trans (hb11.mono hb10.size)).size (.cells #[.int .i64 ra, .int .i64 rb, .int .i64 rd] 47)
  clear hA5 hB5 hk5 hC5 hb10 hb11
  have HW : Hid (Below w.heap.size w (w6.alloc (.cells #[.int .i64 ra, .int .i64 rb, .int .i64 rd] 47))) := hb12
  clear hb12
  have a0 : (w6.alloc (.cells #[.int .i64 ra, .int .i64 rb, .int .i64 rd] 47)).cell? ⟨gA, 0, none⟩ = some (.int .i64 la) := hA6.cell 0
  have a1 : (w6.alloc (.cells #[.int .i64 ra, .int .i64 rb, .int .i64 rd] 47)).cell? ⟨gA, 1, none⟩ = some (.int .i64 lb) := hA6.cell 1
  have a2 : (w6.alloc (.cells #[.int .i64 ra, .int .i64 rb, .int .i64 rd] 47)).cell? ⟨gA, 2, none⟩ = some (.int .i64 ld) := hA6.cell 2
  have b0 : (w6.alloc (.cells #[.int .i64 ra, .int .i64 rb, .int .i64 rd] 47)).cell? ⟨gB, 0, none⟩ = some (.int .i64 ra) := hB6.cell 0
  have b1 : (w6.alloc (.cells #[.int .i64 ra, .int .i64 rb, .int .i64 rd] 47)).cell? ⟨gB, 1, none⟩ = some (.int .i64 rb) := hB6.cell 1
  have b2 : (w6.alloc (.cells #[.int .i64 ra, .int .i64 rb, .int .i64 rd] 47)).cell? ⟨gB, 2, none⟩ = some (.int .i64 rd) := hB6.cell 2
  have c0 : (w6.alloc (.cells #[.int .i64 ra, .int .i64 rb, .int .i64 rd] 47)).cell? ⟨gC, 0, none⟩ = some (.int .i64 la) := hC6.cell 0
  have c1 : (w6.alloc (.cells #[.int .i64 ra, .int .i64 rb, .int .i64 rd] 47)).cell? ⟨gC, 1, none⟩ = some (.int .i64 lb) := hC6.cell 1
  have c2 : (w6.alloc (.cells #[.int .i64 ra, .int .i64 rb, .int .i64 rd] 47)).cell? ⟨gC, 2, none⟩ = some (.int .i64 ld) := hC6.cell 2
  clear hA6 hB6 hC6
  have q1 : (a == a) = true := by simp
  have q2 : (b == b) = true := by simp
  have q3 : (n == n) = true := by simp
  go_wp2
  go_ret
  exact ⟨rfl, HW.out⟩
end Go.Proofs.YtkebgnpifmcmaabGreat

namespace Go.Proofs.YtkebgnpifmcmaabGreat
open Go.RowKit

theorem wf_bounds {x : Int} (h : (Lit.int .i64 x).wf = true) : -9223372036854775808 ≤ x ∧ x ≤ 9223372036854775807 := by
  simp only [Lit.wf, IntKind.min, IntKind.max, IntKind.signed, IntKind.bits, Bool.and_eq_true, decide_eq_true_eq, if_true] at h
  omega

/-- An image that 'Build' made. -/
def Img (im : ByteArray) (s : ByteArray) (rate : Nat) : Prop := Reads im ∧ imT im = tx s ∧ imR im = rate
theorem build_rd (s : ByteArray) (rate : Nat) (w : World) (hn : s.size ≤ 2000) (hr0 : 1 ≤ rate) (hr : rate ≤ 64) :
    Calls Tryz.prog 30 #[.string s, .int .i64 (rate : Int)] w fun en w' => ∃ im, Img im s rate ∧ en = .returned (.tuple #[.string im, .int .i64 0]) ∧ Below w.heap.size w w' := by
  refine (build_ok s rate w hn hr0 hr).mono ?_
  rintro en w' ⟨im, him, rfl, hb⟩
  exact ⟨bs im, reads_img him (by rw [tx_length]; exact hn) hr0 hr, rfl, hb⟩

def MadeRes (w : World) (e : Ending) (w' : World) : Prop := ∃ im s rate, Img im s rate ∧ s.size ≤ 2000 ∧ e = .returned (.tuple #[.string im, .string s, .bool true]) ∧ Below w.heap.size w w'

set_option maxRecDepth 10000 in
set_option maxHeartbeats 1000000 in
theorem made_nat (s : ByteArray) (r : Nat) (w : World) (hm : s.size ≤ maxLen) (hr : r ≤ 9223372036854775807) :
    Calls Tryz.prog 9 #[.string s, .int .i64 (r : Int)] w (MadeRes w) := by
  unfold maxLen at hm
  have hq : (r : Int).tmod 64 = ((r % 64 : Nat) : Int) := by rw [Int.tmod_eq_emod_of_nonneg (by omega)]; omega
  have hq2 : (r : Int) % 64 = ((r % 64 : Nat) : Int) := by omega
  have hlt : r % 64 < 64 := Nat.mod_lt _ (by decide)
  have HB : Hid (∀ (t : ByteArray), t.size ≤ 2000 → ∀ w, Calls Tryz.prog 30 #[.string t, .int .i64 (1 + ((r % 64 : Nat) : Int))] w fun en w' => ∃ im, Img im t (1 + r % 64) ∧ en = .returned (.tuple #[.string im, .int .i64 0]) ∧ Below w.heap.size w w') := fun t ht w => by
    have := build_rd t (1 + r % 64) w ht (by omega) (by omega)
    rw [Int.natCast_add] at this
    exact this
  generalize r % 64 = q at *
  by_cases h1 : 2000 < s.size
  · have hsz : (s.extract 0 2000).size ≤ 2000 := by simp [ByteArray.size_extract]; omega
    go_enter Tryz.func9, Tryz.ntmps9
    go_wp2_with fail
    refine Calls.mono (HB.out _ hsz _) ?_
    clear HB
    rintro en w1 ⟨im, hI, rfl, hb⟩
    have HI : Hid (Img im (s.extract 0 2000) (1 + q)) := hI
    clear hI
    go_wp2
    go_ret3
    exact ⟨_, _, _, HI.out, hsz, rfl, hb⟩
  · have h1' : s.size ≤ 2000 := by omega
    go_enter Tryz.func9, Tryz.ntmps9
    go_wp2_with fail
    refine Calls.mono (HB.out _ h1' _) ?_
    clear HB
    rintro en w1 ⟨im, hI, rfl, hb⟩
    have HI : Hid (Img im s (1 + q)) := hI
    clear hI
    go_wp2
    go_ret3
    exact ⟨_, _, _, HI.out, h1', rfl, hb⟩

set_option maxRecDepth 10000 in
set_option maxHeartbeats 1000000 in
theorem made_neg (s : ByteArray) (x : Int) (w : World) (hm : s.size ≤ maxLen) (hx : x < 0) (hx2 : -9223372036854775808 ≤ x) :
    Calls Tryz.prog 9 #[.string s, .int .i64 x] w (MadeRes w) := by
  unfold maxLen at hm
  obtain ⟨r, hr⟩ : ∃ r : Nat, -(x + 1) = (r : Int) := ⟨(-(x + 1)).toNat, by omega⟩
  have d0 : decide (x < 0) = true := by simpa using hx
  have hq : (r : Int).tmod 64 = ((r % 64 : Nat) : Int) := by rw [Int.tmod_eq_emod_of_nonneg (by omega)]; omega
  have hq2 : (r : Int) % 64 = ((r % 64 : Nat) : Int) := by omega
  have hlt : r % 64 < 64 := Nat.mod_lt _ (by decide)
  have HB : Hid (∀ (t : ByteArray), t.size ≤ 2000 → ∀ w, Calls Tryz.prog 30 #[.string t, .int .i64 (1 + ((r % 64 : Nat) : Int))] w fun en w' => ∃ im, Img im t (1 + r % 64) ∧ en = .returned (.tuple #[.string im, .int .i64 0]) ∧ Below w.heap.size w w') := fun t ht w => by
    have := build_rd t (1 + r % 64) w ht (by omega) (by omega)
    rw [Int.natCast_add] at this
    exact this
  obtain ⟨q, hqd⟩ : ∃ q, q = r % 64 := ⟨_, rfl⟩
  rw [← hqd] at hq hq2 hlt HB
  clear hqd
  by_cases h1 : 2000 < s.size
  · have hsz : (s.extract 0 2000).size ≤ 2000 := by simp [ByteArray.size_extract]; omega
    go_enter Tryz.func9, Tryz.ntmps9
    go_wp2_with fail
    refine Calls.mono (HB.out _ hsz _) ?_
    clear HB
    rintro en w1 ⟨im, hI, rfl, hb⟩
    have HI : Hid (Img im (s.extract 0 2000) (1 + q)) := hI
    clear hI
    go_wp2
    go_ret3
    exact ⟨_, _, _, HI.out, hsz, rfl, hb⟩
  · have h1' : s.size ≤ 2000 := by omega
    go_enter Tryz.func9, Tryz.ntmps9
    go_wp2_with fail
    refine Calls.mono (HB.out _ h1' _) ?_
    clear HB
    rintro en w1 ⟨im, hI, rfl, hb⟩
    have HI : Hid (Img im s (1 + q)) := hI
    clear hI
    go_wp2
    go_ret3
    exact ⟨_, _, _, HI.out, h1', rfl, hb⟩

theorem made_any (s : ByteArray) (x : Int) (w : World) (hm : s.size ≤ maxLen) (hx : (Lit.int .i64 x).wf = true) :
    Calls Tryz.prog 9 #[.string s, .int .i64 x] w (MadeRes w) := by
  obtain ⟨h1, h2⟩ := wf_bounds hx
  by_cases h : x < 0
  · exact made_neg s x w hm h h1
  · obtain ⟨r, rfl⟩ : ∃ r : Nat, x = (r : Int) := ⟨x.toNat, by omega⟩
    exact made_nat s r w hm (by omega)

/-- What 'told' answers. -/
def ToldRes (im : ByteArray) (w : World) (e : Ending) (w' : World) : Prop :=
  ((Reads im ∧ e = .returned (.tuple #[.string (bs (imT im)), .bool true, .bool true])) ∨ (¬ Reads im ∧ e = .returned (.tuple #[.string { data := #[] }, .bool false, .bool true]))) ∧ Below w.heap.size w w'

/-- There is one image of a text and a rate. -/
theorem img_unique {t : List UInt8} {rate : Nat} {a b : List UInt8} (h : IsImg t rate a) (h' : IsImg t rate b) (_hn : t.length ≤ 2000) : a = b := by
  obtain ⟨f, f2, F, F2, rfl⟩ := h
  obtain ⟨f', f2', F', F2', rfl⟩ := h'
  have e1 := pre_congr (t := t) (f := f) (g := f') (k := t.length + 1) (fun j hj => F.unique F' j (by omega))
  have e2 := pre_congr (t := t.reverse) (f := f2) (g := f2') (k := t.length + 1) (fun j hj => F2.unique F2' j (by rw [List.length_reverse]; omega))
  rw [e1.1, e1.2, e2.1, e2.2]
  rw [bodyB_congr _ _ _ _ _ (f := f) (g := f') (fun i hi => F.unique F' i (by
    have hl := bwt_length F'
    rw [bs_size, hl] at hi; omega))]

set_option maxRecDepth 10000 in
set_option maxHeartbeats 1000000 in
theorem told_any (im : ByteArray) (w : World) : Calls Tryz.prog 50 #[.string im] w (ToldRes im w) := by
  have HT : Hid _ := text_any im w
  by_cases hR : Reads im
  · have HRD : Hid (Reads im) := hR
    obtain ⟨hI, hl, hr1, hr2⟩ := reads_isImg hR w
    have hsz : (bs (imT im)).size ≤ 2000 := by rw [bs_size]; exact hl
    have HB : Hid (∀ w, Calls Tryz.prog 30 #[.string (bs (imT im)), .int .i64 (imR im : Int)] w fun en w' => en = .returned (.tuple #[.string im, .int .i64 0]) ∧ Below w.heap.size w w') := fun w => by
      refine (build_ok (bs (imT im)) (imR im) w hsz hr1 hr2).mono ?_
      rintro en w' ⟨im', him, rfl, hb⟩
      rw [tx_bs] at him
      have := img_unique him hI hl
      subst this
      exact ⟨by rw [bs_tx], hb⟩
    clear hR hI hl hr1 hr2
    go_enter Tryz.func50, Tryz.ntmps50
    go_wp2_with fail
    refine Calls.mono HT.out ?_
    clear HT
    rintro en w1 ⟨hres, hb1⟩
    rcases hres with ⟨_, rfl⟩ | ⟨hN, _⟩
    case inr => exact absurd HRD.out hN
    rw [show backText (tx (iS im 1)) (iE im 1) = imT im from rfl, show mRate (rBody im 0) = imR im from rfl]
    go_wp2_with fail
    refine Calls.mono (HB.out w1) ?_
    clear HB
    rintro en w2 ⟨rfl, hb2⟩
    have hb3 := hb1.trans (hb2.mono hb1.size)
    clear hb1 hb2
    generalize hTd : bs (imT im) = T at *
    have HT2 : Hid (bs (imT im) = T) := hTd
    clear hTd
    have q1 : (im.toList == im.toList) = true := by simp
    have q2 : decide ((T.size : Int) ≤ 2000) = true := by simp only [decide_eq_true_eq]; omega
    go_wp2
    go_ret3
    exact ⟨.inl ⟨HRD.out, by rw [HT2.out]; rfl⟩, hb3⟩
  · have HRD : Hid (¬ Reads im) := hR
    clear hR
    go_enter Tryz.func50, Tryz.ntmps50
    go_wp2_with fail
    refine Calls.mono HT.out ?_
    clear HT
    rintro en w1 ⟨hres, hb1⟩
    rcases hres with ⟨hN, _⟩ | ⟨_, rfl⟩
    case inl => exact absurd hN HRD.out
    go_wp2
    go_ret3
    exact ⟨.inr ⟨HRD.out, rfl⟩, hb1⟩
end Go.Proofs.YtkebgnpifmcmaabGreat
