import Derived.Test.YtkebgnpifmcmaabGreatGU
import Derived.Test.YtkebgnpifmcmaabGreatGW
import Derived.Test.YtkebgnpifmcmaabGreatGK
namespace Go.Proofs.YtkebgnpifmcmaabGreat
open Go.RowKit

/-- The bytes behind a piece. -/
theorem among_next {t v : List UInt8} {lo hi bk : Nat} {f2 : Nat → Nat} (h : PairIs t v lo hi bk) (F2 : IsSA t.reverse f2) (c : UInt8) :
    c ∈ amongL (byN (bs (pre t.reverse f2 (t.length + 1)))) (idx (endOf f2 (t.length + 1)) bk) (idx (endOf f2 (t.length + 1)) (bk + hi - lo)) ↔ 0 < NS t (v ++ [c]) := by
  have hok := h.ok
  have h1 := (h.right F2 c).count
  have hr : t.reverse.length = t.length := List.length_reverse
  have e1 := (rank_str F2 (s := bs (pre t.reverse f2 (t.length + 1))) (e := endOf f2 (t.length + 1)) (by rw [hr]) (by rw [hr]) c.toNat bk (by rw [hr]; omega)).1
  have e2 := (rank_str F2 (s := bs (pre t.reverse f2 (t.length + 1))) (e := endOf f2 (t.length + 1)) (by rw [hr]) (by rw [hr]) c.toNat (bk + hi - lo) (by rw [hr]; omega)).1
  rw [amongL, mem_lets _ _ (Nat.le_refl _)]
  have hlt := c.toNat_lt
  simp only [mvL] at h1
  have hm := cntI_mono (aheadV t.reverse f2) (c.toNat : Int) (show bk ≤ bk + hi - lo by omega)
  simp only [decide_eq_true_eq]
  rw [e1, e2]
  omega
theorem enterAmong (args : Array Value) (w : World) : (callFunc 119 args).run Tryz.prog w = .ok (.enter 119 args) w := Go.MuLone.run_callFunc_enter (P := Tryz.prog) Tryz.func119 (by kernel_rfl) rfl args w

set_option maxRecDepth 10000 in
set_option maxHeartbeats 2000000 in
theorem followers_any {w : World} {g : Nat} {t : List UInt8} {rate : Nat} {f f2 : Nat → Nat} (h : IxT w g t rate f f2) {v : List UInt8} {lo hi bk : Nat} (hp : PairIs t v lo hi bk) :
    Calls Tryz.prog 87 #[.pointer (some ⟨g, 0, none⟩), .agg #[.int .i64 (lo : Int), .int .i64 (hi : Int), .int .i64 (bk : Int)]] w fun en w' => (∃ fl : List UInt8, en = .returned (.string (bs fl)) ∧ fl.Nodup ∧ (∀ c, c ∈ fl ↔ 0 < NS t (v ++ [c])) ∧ fl.length ≤ 256) ∧ Below w.heap.size w w' := by
  have hok := hp.ok
  have hn := h.2.2.1
  have hbk := h.back
  have hl2 := bwt_length h.2.1
  have he2 := (sa_end h.2.1).1
  rw [List.length_reverse] at hl2 he2
  have hsz : (bs (pre t.reverse f2 (t.length + 1))).size = t.length := by rw [bs_size, hl2]
  have HFL : Hid (∃ fl : List UInt8, fl = amongL (byN (bs (pre t.reverse f2 (t.length + 1)))) (idx (endOf f2 (t.length + 1)) bk) (idx (endOf f2 (t.length + 1)) (bk + hi - lo)) ∧ fl.Nodup ∧ (∀ c, c ∈ fl ↔ 0 < NS t (v ++ [c])) ∧ fl.length ≤ 256) :=
    ⟨_, rfl, lets_nodup _ _ (Nat.le_refl _), fun c => among_next hp h.2.1 c, lets_le _ _⟩
  have HA : Hid (∀ w', Below w.heap.size w w' → Calls Tryz.prog 119 #[.pointer (some ⟨g, 2, none⟩), .int .i64 (bk : Int), .int .i64 ((bk + hi - lo : Nat) : Int)] w' fun en w2 => en = .returned (.string (bs (amongL (byN (bs (pre t.reverse f2 (t.length + 1)))) (idx (endOf f2 (t.length + 1)) bk) (idx (endOf f2 (t.length + 1)) (bk + hi - lo))))) ∧ Below w'.heap.size w' w2) := fun w' hb => by
    have h3 := (hbk.below hb).2.2
    rw [List.length_reverse] at h3
    exact side_among w' g 2 (endOf f2 (t.length + 1)) bk (bk + hi - lo) _ h3 (by rw [hsz]; exact hn) (by omega) (by rw [hsz]; omega) (by rw [hsz]; omega)
  obtain ⟨fl, hfl, hnd, hmem, hlen⟩ := HFL.out
  rw [← hfl] at HA
  clear HFL hfl h hbk hl2 he2 hsz
  have HM : Hid (∀ c, c ∈ fl ↔ 0 < NS t (v ++ [c])) := hmem
  have HND : Hid fl.Nodup := hnd
  clear hmem hnd hp
  have hb0 : Below w.heap.size w (w.alloc (.cells #[.int .i64 (lo : Int), .int .i64 (hi : Int), .int .i64 (bk : Int)] 47)) := (Below.refl _ _).alloc (Nat.le_refl _) _
  have k0 := Blk.new w 47 #[.int .i64 (lo : Int), .int .i64 (hi : Int), .int .i64 (bk : Int)]
  generalize hX : bk + hi - lo = X at *
  have hw1 : IntKind.i64.wrap ((bk : Int) + (hi : Int)) = (bk : Int) + (hi : Int) := wrapI_small (by omega) (by omega)
  have HWX : IntKind.i64.wrap (X : Int) = (X : Int) := wrapI_small (by omega) (by omega)
  have hXI : (bk : Int) + (hi : Int) - (lo : Int) = (X : Int) := by omega
  clear hX hok
  go_enter Tryz.func87, Tryz.ntmps87
  go_upto_region 1 with fail
  generalize w.alloc (.cells #[.int .i64 (lo : Int), .int .i64 (hi : Int), .int .i64 (bk : Int)] 47) = W0 at *
  have hc0 : W0.cell? ⟨w.heap.size, 0, none⟩ = some (.int .i64 (lo : Int)) := k0.cell 0
  have hc1 : W0.cell? ⟨w.heap.size, 1, none⟩ = some (.int .i64 (hi : Int)) := k0.cell 1
  have hc2 : W0.cell? ⟨w.heap.size, 2, none⟩ = some (.int .i64 (bk : Int)) := k0.cell 2
  have hbd := hb0.drew
  have HA1 : Hid _ := HA.out W0.drew hbd
  clear HA k0
  go_region_law (refine step_calls (args := #[.pointer (some ⟨g, 2, none⟩), .int .i64 (bk : Int), .int .i64 (X : Int)]) rfl rfl enterAmong (by first | (simp [Act.eval, Act.put]; done) | (simp [Act.eval, Act.put]; exact HWX)) HA1.out ?_; rintro en w2 ⟨rfl, hb2⟩; refine ⟨_, rfl, ?_⟩)
  all_goals go_wp2
  all_goals go_ret
  all_goals exact ⟨⟨fl, rfl, HND.out, HM.out, hlen⟩, hbd.trans (hb2.mono hbd.size)⟩
end Go.Proofs.YtkebgnpifmcmaabGreat

namespace Go.Proofs.YtkebgnpifmcmaabGreat
open Go.RowKit

/-- What a search stands on: the index, the pattern, k and the kinds of edits. -/
def Cx (w0 : World) (gS gx gk nk ck m k : Nat) (t P : List UInt8) (rate : Nat) (f f2 HV kd : Nat → Nat) (pi ta re : Bool) : Prop :=
  IxT w0 gx t rate f f2 ∧ w0.heap.size ≤ gS ∧ Row w0 gk 3 nk (IN kd) ∧ nk ≤ 10 ∧ (∀ i, i < nk → kd i ≤ 2) ∧ k ≤ 4 ∧ (∀ F G, edK kd F G nk = edd pi ta re F G) ∧ P.length = m ∧ m ≤ 30 ∧ (∀ c : UInt8, HV c.toNat = wd (hv P c)) ∧ ck = ck
theorem bs_getD (L : List UInt8) (k : Nat) (h : k < (bs L).size) : (bs L)[k] = L.getD k 0 := by
  rw [← tx_getD _ _ h, tx_bs]
theorem AN5X (R : Nat → Nat → Bool) (e : Nat) : ∃ X0 X1 X2 X3 X4 : Nat, AN 5 (RV R e) = #[.int .u64 (X0 : Int), .int .u64 (X1 : Int), .int .u64 (X2 : Int), .int .u64 (X3 : Int), .int .u64 (X4 : Int)] :=
  ⟨if 0 < e then wd (R 0) else 0, if 1 < e then wd (R 1) else 0, if 2 < e then wd (R 2) else 0, if 3 < e then wd (R 3) else 0, if 4 < e then wd (R 4) else 0, AN5 _⟩
/-- What a search of a piece does. -/
def VisitQ (w0 w : World) (gS gx gk nk ck m k : Nat) (t P : List UInt8) (HV : Nat → Nat) (pi ta re : Bool) (v : List UInt8) (L : List Nat) (e : Ending) (w' : World) : Prop :=
  e = .returned (.tuple #[]) ∧ (∃ pv' L1, Found t P pi ta re k v L1 ∧ SB w' gS gx m k HV (.slice (some ⟨gk, 0, none⟩) nk ck) pv' ∧ OwnL w' w0.heap.size pv' (L ++ L1)) ∧ Below w0.heap.size w0 w' ∧ KeepB w w' gS
theorem enterGrow (args : Array Value) (w : World) : (callFunc 89 args).run Tryz.prog w = .ok (.enter 89 args) w := Go.MuLone.run_callFunc_enter (P := Tryz.prog) Tryz.func89 (by kernel_rfl) rfl args w
theorem enterFollowers (args : Array Value) (w : World) : (callFunc 87 args).run Tryz.prog w = .ok (.enter 87 args) w := Go.MuLone.run_callFunc_enter (P := Tryz.prog) Tryz.func87 (by kernel_rfl) rfl args w
theorem enterVisit (args : Array Value) (w : World) : (callFunc 60 args).run Tryz.prog w = .ok (.enter 60 args) w := Go.MuLone.run_callFunc_enter (P := Tryz.prog) Tryz.func60 (by kernel_rfl) rfl args w

set_option maxRecDepth 10000 in
set_option maxHeartbeats 4000000 in
theorem visit_any {w0 : World} {gS gx gk nk ck m k : Nat} {t P : List UInt8} {rate : Nat} {f f2 HV kd : Nat → Nat} {pi ta re : Bool} (hx : Cx w0 gS gx gk nk ck m k t P rate f f2 HV kd pi ta re) :
    ∀ (N : Nat) (v : List UInt8) (lo up bk : Nat) (w : World) (pv : Value) (L : List Nat), t.length + 1 - v.length ≤ N → PairIs t v lo up bk → 0 < NS t v → Below w0.heap.size w0 w → SB w gS gx m k HV (.slice (some ⟨gk, 0, none⟩) nk ck) pv → OwnL w w0.heap.size pv L → Fit t v L →
    Calls Tryz.prog 60 #[.pointer (some ⟨gS, 0, none⟩), .agg #[.int .i64 (lo : Int), .int .i64 (up : Int), .int .i64 (bk : Int)], .agg (AN 5 (RV (rb P pi ta re v) (k + 1)))] w (VisitQ w0 w gS gx gk nk ck m k t P HV pi ta re v L) := by
  obtain ⟨h0, hgS, hrk, hnk, hkd, hk4, hed, hPm, hm30, hHV, _⟩ := hx
  have hn := h0.2.2.1
  intro N
  induction N with
  | zero =>
    intro v lo up bk w pv L hN hp hns
    have := NS_long hns
    omega
  | succ N IH =>
    intro v lo up bk w pv L hN hp hns hb hS hown hfit
    have hok := hp.ok
    have hLl := hfit.len
    have q0 := (Blk.new w 47 #[.int .i64 (lo : Int), .int .i64 (up : Int), .int .i64 (bk : Int)]).alloc (.cells (AN 5 (RV (rb P pi ta re v) (k + 1))) 100)
    have q1 := Blk.new (w.alloc (.cells #[.int .i64 (lo : Int), .int .i64 (up : Int), .int .i64 (bk : Int)] 47)) 100 (AN 5 (RV (rb P pi ta re v) (k + 1)))
    rw [show (w.alloc (.cells #[.int .i64 (lo : Int), .int .i64 (up : Int), .int .i64 (bk : Int)] 47)).heap.size = w.heap.size + 1 from by simp] at q1
    have hbA : Below w.heap.size w ((w.alloc (.cells #[.int .i64 (lo : Int), .int .i64 (up : Int), .int .i64 (bk : Int)] 47)).alloc (.cells (AN 5 (RV (rb P pi ta re v) (k + 1))) 100)) := ((Below.refl _ _).alloc (Nat.le_refl _) _).alloc (by simp) _
    have hb1 := hb.trans (hbA.mono hb.size)
    have hS1 := hS.below hbA
    have hown1 : OwnL _ w0.heap.size pv L := own_below hown hbA
    have hK1 := (KeepB.refl w gS).below hbA
    have hgw : gS < w.heap.size := Blk.lt hS
    clear hS hown hb
    go_enter Tryz.func60, Tryz.ntmps60
    go_upto_region 1 with fail
    generalize (w.alloc (.cells #[.int .i64 (lo : Int), .int .i64 (up : Int), .int .i64 (bk : Int)] 47)).alloc (.cells (AN 5 (RV (rb P pi ta re v) (k + 1))) 100) = W0 at *
    obtain ⟨G, hG⟩ : ∃ G, G = w.heap.size := ⟨_, rfl⟩
    rw [← hG] at q0 q1 hgw ⊢
    clear hG hbA
    have ck1 := hS1.k
    have cw1 := hS1.whole
    have ca1 : W0.cell? ⟨G + 1, k, none⟩ = some (.int .u64 (wd (rb P pi ta re v k) : Int)) := by
      have := q1.cellAN (j := k) (by omega)
      rwa [RV_at _ _ _ (Nat.lt_succ_self k)] at this
    have hkI : (k : Int) < 5 := by omega
    have HWB : Hid (bits BinOp.and IntKind.u64 (wd (rb P pi ta re v k) : Int) ((2 ^ m : Nat) : Int) = if rb P pi ta re v k m then ((2 ^ m : Nat) : Int) else 0) := whole_bits _ m (by omega)
    have h2m : 0 < 2 ^ m := Nat.two_pow_pos m
    generalize hMM : 2 ^ m = MM at *
    clear hMM
    by_cases hr : rb P pi ta re v k m = true
    · have hbit : bits BinOp.and IntKind.u64 (wd (rb P pi ta re v k) : Int) (MM : Int) = (MM : Int) := by rw [HWB.out, if_pos hr]
      have hne : ((MM : Int) != 0) = true := by simp; omega
      clear HWB
      go_quiet (fail)
      have q0' : Blk (W0.drewN nq) G 47 #[.int .i64 (lo : Int), .int .i64 (up : Int), .int .i64 (bk : Int)] := q0
      have hb1' : Below w0.heap.size w0 (W0.drewN nq) := below_drewN hb1 nq
      have hS1' : SB (W0.drewN nq) gS gx m k HV (.slice (some ⟨gk, 0, none⟩) nk ck) pv := hS1
      have hown1' : OwnL (W0.drewN nq) w0.heap.size pv L := hown1
      have hK1' : KeepB w (W0.drewN nq) gS := hK1
      have HF : Hid (Found t P pi ta re k v (rl f lo (up - lo))) := rl_found h0.1 (by rw [hPm]; exact hr) hp
      clear q0 q1 hb1 hS1 hown1 hK1 ck1 cw1 ca1 IH hr hbit hne
      generalize W0.drewN nq = W1 at *
      have HT : Hid _ := taken_any h0 hb1' hS1' hgS hown1' (by omega) lo up bk hok.1 hok.2.1
      have c0 : W1.cell? ⟨G, 0, none⟩ = some (.int .i64 (lo : Int)) := q0'.cell 0
      have c1 : W1.cell? ⟨G, 1, none⟩ = some (.int .i64 (up : Int)) := q0'.cell 1
      have c2 : W1.cell? ⟨G, 2, none⟩ = some (.int .i64 (bk : Int)) := q0'.cell 2
      go_wp2_with fail
      refine Calls.mono HT.out ?_
      clear HT
      rintro en w2 ⟨rfl, pv', hS2, hown2, hb2, hK2⟩
      go_wp2
      exact bodyPost_ret (results_none rfl _ _ _) rfl ⟨rfl, ⟨pv', _, HF.out, hS2, hown2⟩, hb2, hK1'.trans hK2⟩
    · have hr' : rb P pi ta re v k m = false := by simpa using hr
      have hbit : bits BinOp.and IntKind.u64 (wd (rb P pi ta re v k) : Int) (MM : Int) = 0 := by rw [HWB.out, if_neg hr]
      clear HWB
      go_quiet (fail)
      have q0' : Blk (W0.drewN nq) G 47 #[.int .i64 (lo : Int), .int .i64 (up : Int), .int .i64 (bk : Int)] := q0
      have q1' : Blk (W0.drewN nq) (G + 1) 100 (AN 5 (RV (rb P pi ta re v) (k + 1))) := q1
      have hb1' : Below w0.heap.size w0 (W0.drewN nq) := below_drewN hb1 nq
      have hS1' : SB (W0.drewN nq) gS gx m k HV (.slice (some ⟨gk, 0, none⟩) nk ck) pv := hS1
      have hown1' : OwnL (W0.drewN nq) w0.heap.size pv L := hown1
      have hK1' : KeepB w (W0.drewN nq) gS := hK1
      clear q0 q1 hb1 hS1 hown1 hK1 ck1 cw1 ca1 hbit
      generalize W0.drewN nq = W1 at *
      have c0 : W1.cell? ⟨G, 0, none⟩ = some (.int .i64 (lo : Int)) := q0'.cell 0
      have c1 : W1.cell? ⟨G, 1, none⟩ = some (.int .i64 (up : Int)) := q0'.cell 1
      have c2 : W1.cell? ⟨G, 2, none⟩ = some (.int .i64 (bk : Int)) := q0'.cell 2
      have cx := hS1'.x
      have c0' : W1.drew.cell? ⟨G, 0, none⟩ = some (.int .i64 (lo : Int)) := c0
      have c1' : W1.drew.cell? ⟨G, 1, none⟩ = some (.int .i64 (up : Int)) := c1
      have c2' : W1.drew.cell? ⟨G, 2, none⟩ = some (.int .i64 (bk : Int)) := c2
      have cx' : W1.drew.cell? ⟨gS, 0, none⟩ = some (.pointer (some ⟨gx, 0, none⟩)) := cx
      have HFO : Hid _ := followers_any (h0.below hb1'.drew) hp
      go_upto_region 3 with fail
      go_cut [6] from 25 to 30 (fun q wx => ∃ (fl : List UInt8) (st : ByteArray) (W2 : World), W2 = wx ∧ q = .string st ∧ st.size = fl.length ∧ Hid (∀ i (h : i < st.size), st[i] = fl.getD i 0) ∧ Hid fl.Nodup ∧ Hid (∀ c, c ∈ fl ↔ 0 < NS t (v ++ [c])) ∧ fl.length ≤ 256 ∧ Below W1.drew.heap.size W1.drew W2)
      case first =>
        go_region_law (refine step_calls (args := #[.pointer (some ⟨gx, 0, none⟩), .agg #[.int .i64 (lo : Int), .int .i64 (up : Int), .int .i64 (bk : Int)]]) rfl rfl enterFollowers (by simp [Act.eval]) HFO.out ?_; rintro en w2 ⟨⟨fl, rfl, hnd, hmem, hfl⟩, hb2⟩; refine ⟨_, rfl, ?_⟩; obtain ⟨st, hst⟩ : ∃ st, st = bs fl := ⟨_, rfl⟩; have hss : Hid (st.size = fl.length ∧ ∀ i (h : i < st.size), st[i] = fl.getD i 0) := (by rw [hst]; exact ⟨bs_size fl, bs_getD fl⟩); rw [← hst]; clear hst)
        all_goals (go_wp2_with fail)
        all_goals go_meet
        all_goals exact ⟨fl, st, _, rfl, rfl, hss.out.1, hss.out.2, hnd, hmem, hfl, hb2⟩
      case rest =>
        obtain ⟨fl, st, W2, rfl, rfl, hsz, HST, HND, HMEM, hfl, hb2⟩ := hcut
        have q0D : Blk W1.drew G 47 _ := q0'
        have q1D : Blk W1.drew (G + 1) 100 _ := q1'
        have hSD : SB W1.drew gS gx m k HV (.slice (some ⟨gk, 0, none⟩) nk ck) pv := hS1'
        have hownD : OwnL W1.drew w0.heap.size pv L := hown1'
        have hKD : KeepB w W1.drew gS := hK1'
        have hbD := hb1'.drew
        have q0W := q0D.below hb2 q0D.lt
        have q1W := q1D.below hb2 q1D.lt
        have hSW := hSD.below hb2
        have hownW : OwnL W2 w0.heap.size pv L := own_below hownD hb2
        have hKW := hKD.below hb2
        have hbW := hbD.trans (hb2.mono hbD.size)
        clear q0D q1D hSD hownD hKD hbD q0' q1' hS1' hown1' hK1' hb1' c0 c1 c2 cx c0' c1' c2' cx' HFO hb2
        have HP : Hid (PairIs t v lo up bk) := hp
        have HFIT : Hid (Fit t v L) := hfit
        have HR : Hid (rb P pi ta re v k P.length = false) := by show _ = false; rw [hPm]; exact hr'
        have HIH : Hid (∀ (v : List UInt8) (lo up bk : Nat) (w : World) (pv : Value) (L : List Nat), t.length + 1 - v.length ≤ N → PairIs t v lo up bk → 0 < NS t v → Below w0.heap.size w0 w → SB w gS gx m k HV (.slice (some ⟨gk, 0, none⟩) nk ck) pv → OwnL w w0.heap.size pv L → Fit t v L → Calls Tryz.prog 60 #[.pointer (some ⟨gS, 0, none⟩), .agg #[.int .i64 (lo : Int), .int .i64 (up : Int), .int .i64 (bk : Int)], .agg (AN 5 (RV (rb P pi ta re v) (k + 1)))] w (VisitQ w0 w gS gx gk nk ck m k t P HV pi ta re v L)) := IH
        clear hp hfit hr hr' IH
        go_wp2_with fail
        go_loopw [33, 7, 8, 9] (fun iv _ _ _ wr => ∃ i : Nat, i ≤ fl.length ∧ iv = .int .i64 (i : Int) ∧ Blk wr G 47 #[.int .i64 (lo : Int), .int .i64 (up : Int), .int .i64 (bk : Int)] ∧ Blk wr (G + 1) 100 (AN 5 (RV (rb P pi ta re v) (k + 1))) ∧ (∃ pv' L1, Hid (FoundB t P pi ta re k v (fl.take i) L1) ∧ SB wr gS gx m k HV (.slice (some ⟨gk, 0, none⟩) nk ck) pv' ∧ OwnL wr w0.heap.size pv' (L ++ L1)) ∧ Below w0.heap.size w0 wr ∧ KeepB w wr gS) (fun iv _ _ _ _ => fl.length - (intOf iv).toNat)
        case atStart => exact ⟨0, Nat.zero_le _, rfl, q0W, q1W, ⟨pv, [], FoundB.start _ _ _ _ _ _ _, hSW, by rw [List.append_nil]; exact hownW⟩, hbW, hKW⟩
        case round =>
          clear q0W q1W hSW hownW hKW hbW
          obtain ⟨i, hi, rfl, q0, q1, ⟨pv', L1, HFB, hS, hown⟩, hb, hK⟩ := hrel
          by_cases hlt : i < fl.length
          · have hlt2 : i < st.size := by omega
            have hge := HST.out i hlt2
            have c0 := q1.cellAN (j := 0) (by decide)
            have c1 := q1.cellAN (j := 1) (by decide)
            have c2 := q1.cellAN (j := 2) (by decide)
            have c3 := q1.cellAN (j := 3) (by decide)
            have c4 := q1.cellAN (j := 4) (by decide)
            have HSTEP : Hid (Calls Tryz.prog 88 #[.pointer (some ⟨gS, 0, none⟩), .agg #[RV (rb P pi ta re v) (k + 1) 0, RV (rb P pi ta re v) (k + 1) 1, RV (rb P pi ta re v) (k + 1) 2, RV (rb P pi ta re v) (k + 1) 3, RV (rb P pi ta re v) (k + 1) 4], .int .u8 ((st[i]).toNat : Int)] wr fun e w' => (∃ X0 X1 X2 X3 X4 : Nat, e = .returned (.agg #[.int .u64 (X0 : Int), .int .u64 (X1 : Int), .int .u64 (X2 : Int), .int .u64 (X3 : Int), .int .u64 (X4 : Int)]) ∧ Hid (#[.int .u64 (X0 : Int), .int .u64 (X1 : Int), .int .u64 (X2 : Int), .int .u64 (X3 : Int), .int .u64 (X4 : Int)] = AN 5 (RV (rb P pi ta re (v ++ [st[i]])) (k + 1)))) ∧ Below wr.heap.size wr w') := by
              have := step_any hS (hrk.below hb hrk.lt) hnk hkd hk4 pi ta re hed P (st[i]) (hHV _) (rb P pi ta re v)
              rw [← rb_snoc] at this
              show Calls _ _ _ _ _
              rw [← AN5]
              refine this.mono (fun e w' hh => ⟨?_, hh.2⟩)
              obtain ⟨X0, X1, X2, X3, X4, hX⟩ := AN5X (rb P pi ta re (v ++ [st[i]])) (k + 1)
              exact ⟨X0, X1, X2, X3, X4, by rw [hh.1, hX], hX.symm⟩
            have HC1 : Hid (st[i] ∉ fl.take i ∧ fl.take (i + 1) = fl.take i ++ [st[i]] ∧ 0 < NS t (v ++ [st[i]])) := by
              show _ ∧ _ ∧ _
              rw [hge]
              have e2 := take_snoc fl i hlt
              refine ⟨?_, e2, (HMEM.out _).1 ?_⟩
              · intro hm
                have h2 : (fl.take (i + 1)).Nodup := List.Nodup.sublist (List.take_sublist _ _) HND.out
                rw [e2, List.nodup_append] at h2
                exact h2.2.2 _ hm _ (by simp) rfl
              · have : fl.getD i 0 ∈ fl.take (i + 1) := by rw [e2]; simp
                exact List.mem_of_mem_take this
            clear hge
            go_wp2_with fail
            refine Calls.mono HSTEP.out ?_
            clear HSTEP
            rintro en w2 ⟨⟨X0, X1, X2, X3, X4, rfl, HXA⟩, hb2⟩
            clear c0 c1 c2 c3 c4
            have q2 := Blk.new w2 100 #[.int .u64 (X0 : Int), .int .u64 (X1 : Int), .int .u64 (X2 : Int), .int .u64 (X3 : Int), .int .u64 (X4 : Int)]
            have hbA := (Below.refl w2.heap.size w2).alloc (Nat.le_refl _) (.cells #[.int .u64 (X0 : Int), .int .u64 (X1 : Int), .int .u64 (X2 : Int), .int .u64 (X3 : Int), .int .u64 (X4 : Int)] 100)
            have hb3 : Below wr.heap.size wr _ := hb2.trans (hbA.mono hb2.size)
            have q0A := q0.below hb3 q0.lt
            have q1A := q1.below hb3 q1.lt
            have hSA := hS.below hb3
            have hownA : OwnL _ w0.heap.size pv' (L ++ L1) := own_below hown hb3
            have hKA := hK.below hb3
            have hbAA := hb.trans (hb3.mono hb.size)
            have ckA := hSA.k
            have cjA : (w2.alloc (.cells #[.int .u64 (X0 : Int), .int .u64 (X1 : Int), .int .u64 (X2 : Int), .int .u64 (X3 : Int), .int .u64 (X4 : Int)] 100)).cell? ⟨w2.heap.size, k, none⟩ = some (.int .u64 (wd (rb P pi ta re (v ++ [st[i]]) k) : Int)) := by
              have h1 := q2
              rw [HXA.out] at h1 ⊢
              have := h1.cellAN (j := k) (by omega)
              rwa [RV_at _ _ _ (Nat.lt_succ_self k)] at this
            clear q0 q1 hS hown hK hb hbA hb2
            by_cases hz : wd (rb P pi ta re (v ++ [st[i]]) k) = 0
            · have HSK : Hid (FoundB t P pi ta re k v (fl.take (i + 1)) L1) := by
                show FoundB _ _ _ _ _ _ _ _ _
                rw [HC1.out.2.1]
                exact HFB.out.skip (fun j hj => (wd_zero _).1 hz j (by omega))
              rw [hz] at cjA
              clear HC1 HFB hz q2 HXA
              go_wp2
              go_roundw
              case rel => exact ⟨i + 1, by omega, by go_num, q0A, q1A, ⟨pv', L1, HSK.out, hSA, hownA⟩, hbAA, hKA⟩
              case measure => simp [intOf]; omega
            · have hnz : ((wd (rb P pi ta re (v ++ [st[i]]) k) : Int) != 0) = true := by simp; omega
              generalize wd (rb P pi ta re (v ++ [st[i]]) k) = WK at *
              go_upto_region 10 with fail
              generalize w2.alloc (.cells #[.int .u64 (X0 : Int), .int .u64 (X1 : Int), .int .u64 (X2 : Int), .int .u64 (X3 : Int), .int .u64 (X4 : Int)] 100) = W3 at *
              generalize w2.heap.size = GL at *
              obtain ⟨lo', up', bk', hrv, hp'⟩ : ∃ lo' up' bk' : Nat, rightV t.reverse f2 lo up bk (st[i]).toNat = .agg #[.int .i64 (lo' : Int), .int .i64 (up' : Int), .int .i64 (bk' : Int)] ∧ PairIs t (v ++ [st[i]]) lo' up' bk' := ⟨_, _, _, rfl, HP.out.right h0.2.1 (st[i])⟩
              have HGR : Hid (Calls Tryz.prog 89 #[.pointer (some ⟨gx, 0, none⟩), .agg #[.int .i64 (lo : Int), .int .i64 (up : Int), .int .i64 (bk : Int)], .int .i64 1, .int .u8 ((st[i]).toNat : Int)] W3.drew fun en w' => en = .returned (.agg #[.int .i64 (lo' : Int), .int .i64 (up' : Int), .int .i64 (bk' : Int)]) ∧ Below W3.drew.heap.size W3.drew w') := by
                have := grow_right (h0.below hbAA.drew) lo up bk (st[i]).toNat (st[i]).toNat_lt hok.1 hok.2.1 hok.2.2
                rw [hrv] at this
                exact this
              have HCA : Hid (∀ w3, Below W3.drew.heap.size W3.drew w3 → Calls Tryz.prog 60 #[.pointer (some ⟨gS, 0, none⟩), .agg #[.int .i64 (lo' : Int), .int .i64 (up' : Int), .int .i64 (bk' : Int)], .agg #[.int .u64 (X0 : Int), .int .u64 (X1 : Int), .int .u64 (X2 : Int), .int .u64 (X3 : Int), .int .u64 (X4 : Int)]] w3 (VisitQ w0 w3 gS gx gk nk ck m k t P HV pi ta re (v ++ [st[i]]) (L ++ L1))) := fun w3 hb3' => by
                rw [HXA.out]
                have hSd : SB W3.drew gS gx m k HV (.slice (some ⟨gk, 0, none⟩) nk ck) pv' := hSA
                have hod : OwnL W3.drew w0.heap.size pv' (L ++ L1) := hownA
                refine HIH.out (v ++ [st[i]]) lo' up' bk' w3 pv' (L ++ L1) ?_ hp' HC1.out.2.2 (hbAA.drew.trans (hb3'.mono hbAA.drew.size)) (hSd.below hb3') (own_below hod hb3') (HFIT.out.child HFB.out HC1.out.1)
                rw [List.length_append, List.length_singleton]; omega
              have z0 : W3.cell? ⟨GL, 0, none⟩ = some (.int .u64 (X0 : Int)) := q2.cell 0
              have z1 : W3.cell? ⟨GL, 1, none⟩ = some (.int .u64 (X1 : Int)) := q2.cell 1
              have z2 : W3.cell? ⟨GL, 2, none⟩ = some (.int .u64 (X2 : Int)) := q2.cell 2
              have z3 : W3.cell? ⟨GL, 3, none⟩ = some (.int .u64 (X3 : Int)) := q2.cell 3
              have z4 : W3.cell? ⟨GL, 4, none⟩ = some (.int .u64 (X4 : Int)) := q2.cell 4
              have y0 : W3.cell? ⟨G, 0, none⟩ = some (.int .i64 (lo : Int)) := q0A.cell 0
              have y1 : W3.cell? ⟨G, 1, none⟩ = some (.int .i64 (up : Int)) := q0A.cell 1
              have y2 : W3.cell? ⟨G, 2, none⟩ = some (.int .i64 (bk : Int)) := q0A.cell 2
              have yx := hSA.x
              have z0' : W3.drew.cell? ⟨GL, 0, none⟩ = some (.int .u64 (X0 : Int)) := z0
              have z1' : W3.drew.cell? ⟨GL, 1, none⟩ = some (.int .u64 (X1 : Int)) := z1
              have z2' : W3.drew.cell? ⟨GL, 2, none⟩ = some (.int .u64 (X2 : Int)) := z2
              have z3' : W3.drew.cell? ⟨GL, 3, none⟩ = some (.int .u64 (X3 : Int)) := z3
              have z4' : W3.drew.cell? ⟨GL, 4, none⟩ = some (.int .u64 (X4 : Int)) := z4
              have y0' : W3.drew.cell? ⟨G, 0, none⟩ = some (.int .i64 (lo : Int)) := y0
              have y1' : W3.drew.cell? ⟨G, 1, none⟩ = some (.int .i64 (up : Int)) := y1
              have y2' : W3.drew.cell? ⟨G, 2, none⟩ = some (.int .i64 (bk : Int)) := y2
              have yx' : W3.drew.cell? ⟨gS, 0, none⟩ = some (.pointer (some ⟨gx, 0, none⟩)) := yx
              have q2D : Blk W3.drew GL 100 _ := q2
              have q0D : Blk W3.drew G 47 _ := q0A
              have q1D : Blk W3.drew (G + 1) 100 _ := q1A
              have hKD : KeepB w W3.drew gS := hKA
              have HFB2 : Hid (∀ L2, Found t P pi ta re k (v ++ [st[i]]) L2 → FoundB t P pi ta re k v (fl.take (i + 1)) (L1 ++ L2)) := fun L2 hf => by
                rw [HC1.out.2.1]
                exact HFB.out.step HC1.out.1 hf
              clear hrv hp' q2 q0A q1A hKA hSA hownA hbAA HIH HP HFIT HFB HC1 HXA hnz hz cjA ckA hb3
              go_region_law (first
                | (refine step_calls (args := #[.pointer (some ⟨gx, 0, none⟩), .agg #[.int .i64 (lo : Int), .int .i64 (up : Int), .int .i64 (bk : Int)], .int .i64 1, .int .u8 ((st[i]).toNat : Int)]) rfl rfl enterGrow (by simp [Act.eval]) HGR.out ?_; rintro en w3 ⟨rfl, hb4⟩; refine ⟨_, rfl, ?_⟩; have v0 := (q2D.below hb4 q2D.lt).cell 0; have v1 := (q2D.below hb4 q2D.lt).cell 1; have v2 := (q2D.below hb4 q2D.lt).cell 2; have v3 := (q2D.below hb4 q2D.lt).cell 3; have v4 := (q2D.below hb4 q2D.lt).cell 4)
                | (refine step_calls (args := #[.pointer (some ⟨gS, 0, none⟩), .agg #[.int .i64 (lo' : Int), .int .i64 (up' : Int), .int .i64 (bk' : Int)], .agg #[.int .u64 (X0 : Int), .int .u64 (X1 : Int), .int .u64 (X2 : Int), .int .u64 (X3 : Int), .int .u64 (X4 : Int)]]) rfl rfl enterVisit (by simp [Act.eval]) (HCA.out w3 hb4) ?_; rintro en w4 ⟨rfl, ⟨pv2, L2, hF2, hS4, hown4⟩, hbw4, hK4⟩; refine ⟨_, rfl, ?_⟩))
              all_goals
                have q0E := hK4 G _ _ (by decide) (by omega) (q0D.below hb4 q0D.lt)
                have q1E := hK4 (G + 1) _ _ (by decide) (by omega) (q1D.below hb4 q1D.lt)
                have hKE := (hKD.below hb4).trans hK4
              all_goals (go_wp2_with fail)
              all_goals go_roundw
              all_goals first
                | exact ⟨i + 1, by omega, by go_num, q0E, q1E, ⟨pv2, L1 ++ L2, HFB2.out L2 hF2, hS4, by rw [← List.append_assoc]; exact hown4⟩, hbw4, hKE⟩
                | (simp [intOf]; omega)
          · obtain rfl : i = fl.length := by omega
            have HDN : Hid (Found t P pi ta re k v L1) := by
              have := HFB.out
              rw [List.take_length] at this
              exact this.done HR.out (fun c hc => (HMEM.out c).2 hc)
            go_wp2
            exact bodyPost_end (results_none rfl _ _ _) rfl ⟨rfl, ⟨pv', L1, HDN.out, hS, hown⟩, hb, hK⟩
end Go.Proofs.YtkebgnpifmcmaabGreat
