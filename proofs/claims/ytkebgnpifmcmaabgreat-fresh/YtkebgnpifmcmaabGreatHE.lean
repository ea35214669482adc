import Derived.Test.YtkebgnpifmcmaabGreatHD
import Derived.Test.YtkebgnpifmcmaabGreatGY
import Derived.Test.YtkebgnpifmcmaabGreatGZ
namespace Go.Proofs.YtkebgnpifmcmaabGreat
open Go.RowKit

theorem cells2 (w : World) (T : TypeId) (a b : Value) : ∀ (j : Nat) (u : Value), [a, b][j]? = some u → (w.alloc (.cells #[a, b] T)).cell? ((⟨w.heap.size, 0, none⟩ : Addr).add j) = some u := by
  intro j u h
  have hk := Blk.new w T #[a, b]
  have h2 : (⟨w.heap.size, 0, none⟩ : Addr).add j = ⟨w.heap.size, j, none⟩ := by rw [Addr.add_lit, Nat.zero_add]
  rw [h2, hk.cell j]
  simpa using h
theorem own_marks {w : World} {base k : Nat} {v : Value} {xs : List Value} {c : Int} (h : w.ownsRow base 3 1 v k xs) (hx : ∀ j, j < k → xs[j]? = some (.int .i64 c)) (hk : 0 < k) : ∃ b cp, v = .slice (some ⟨b, 0, none⟩) k cp ∧ base ≤ b ∧ Row w b 3 k (II fun _ => c) := by
  rcases h.2 with ⟨_, h0⟩ | ⟨b, cp, cur, rfl, hb, _⟩
  · omega
  · exact ⟨b, cp, rfl, hb, Row.owned h hx⟩

set_option maxRecDepth 10000 in
set_option maxHeartbeats 4000000 in
theorem list_nil {w0 w : World} {gM j : Nat} {Vs : List Value} (hb : Below w0.heap.size w0 w) (hBk : Bk w w0.heap.size gM Vs) (hj : Vs.length = 4 * j) (hj2 : j ≤ 10) (hgM : w0.heap.size ≤ gM) :
    Calls Tryz.prog 42 #[.pointer (some ⟨gM, 0, none⟩), .slice none 0 0] w fun e w' => e = .returned (.tuple #[]) ∧ (∃ V1 V2 V3, Bk w' w0.heap.size gM (Vs ++ [.slice none 0 0, V1, V2, V3]) ∧ (∀ V, V ∈ [V1, V2, V3] → ∃ b, V.ownBlock = some b ∧ w.heap.size ≤ b) ∧ ∀ V, V ∈ [V1, V2, V3] → ∀ b, V.ownBlock = some b → b < w'.heap.size) ∧ K3 w w' none ∧ Below w0.heap.size w0 w' ∧ w.heap.size ≤ w'.heap.size := by
  obtain ⟨i0, hi, hz0, hz1, hz2⟩ := info_parts Tryz.info3
  obtain ⟨i1, hi1, hy0, hy1, hy2⟩ := info_parts Tryz.infoLI
  obtain ⟨vL, hM, ho, h3⟩ := hBk
  have H3 : Hid (∀ i, i < Vs.length → ∃ k, k ≤ 3010 ∧ Lst w (Vs.getD i undef) k (II fun _ => ((1000000 + i / 4 : Nat) : Int))) := h3
  clear h3
  obtain ⟨aoL, capL, rfl⟩ : ∃ aoL capL, vL = .slice aoL Vs.length capL := by
    rcases ho.2 with ⟨rfl, h0⟩ | ⟨g', cp, cur', rfl, _⟩
    · exact ⟨none, 0, by rw [h0]⟩
    · exact ⟨_, _, rfl⟩
  have hc0 : w.cell? ⟨gM, 0, none⟩ = some (.slice aoL Vs.length capL) := hM.cell 0
  have HJ : Hid (Vs.length = 4 * j) := hj
  have hdv : (Vs.length : Int) / 4 = (j : Int) := by omega
  have hNs : Vs.length ≤ 40 := by omega
  clear hj
  generalize hN : Vs.length = N at *
  have HLN : Hid (Vs.length = N) := hN
  clear hN
  go_enter Tryz.func42, Tryz.ntmps42
  go_wp2_with fail
  obtain ⟨C, hC⟩ : ∃ C : Int, C = 1000000 + (j : Int) := ⟨_, rfl⟩
  have HC : Hid (((1000000 + j : Nat) : Int) = C) := by show _ = C; rw [hC]; simp
  rw [← hC]
  clear hC hc0
  go_loopw [5] (fun iv wr => iv = .int .i64 0 ∧ ∃ W, W = wr ∧ W = w) (fun _ _ => 0)
  case atStart => exact ⟨rfl, _, rfl, rfl⟩
  case round =>
    obtain ⟨rfl, W, rfl, rfl⟩ := hrel
    have hbsz := hb.size
    go_wp2_with (first
      | (at_builtin; refine wpList_append_grows _ rfl (.tmp 26) (.tmp 28) 32 rfl 3 i0 (.int .i64 0) 1 8 Tryz.underlying32 hi hz0 hz1 hz2 rfl (by decide) none 0 0 [] rfl (fun _ => ⟨rfl, rfl⟩) rfl (fun b h => by cases h) ⟨W.heap.size, 0, none⟩ 1 1 [.int .i64 C] rfl rfl (cell_one_new _ _ _) (by simp; rfl) (by omega) (by unfold maxLen; omega) (by omega) ?_; intro v1 w1 hr1 hg1; obtain ⟨b1, p1, rfl, hb1, hR1⟩ := own_marks hr1 (c := C) (fun j hj => by rcases j with _ | j <;> first | rfl | omega) (by omega); have hM1 := (hM.alloc _).grown hg1 (by simp); have ho1 := (ho.alloc _).kept hg1 (by cases hv : (Value.slice aoL N capL).ownBlock <;> simp))
      | (at_builtin; refine wpList_append_grows _ rfl (.tmp 30) (.tmp 33) 32 rfl 3 i0 (.int .i64 0) 1 8 Tryz.underlying32 hi hz0 hz1 hz2 rfl (by decide) none 0 0 [] rfl (fun _ => ⟨rfl, rfl⟩) rfl (fun b h => by cases h) ⟨w1.heap.size, 0, none⟩ 2 2 [.int .i64 C, .int .i64 C] rfl rfl (cells2 w1 _ _ _) (by simp; rfl) (by omega) (by unfold maxLen; omega) (by omega) ?_; intro v2 w2 hr2 hg2; obtain ⟨b2, p2, rfl, hb2, hR2⟩ := own_marks hr2 (c := C) (fun j hj => by rcases j with _ | _ | j <;> first | rfl | omega) (by omega); have hM2 := (hM1.alloc _).grown hg2 (by simp); have ho2 := (ho1.alloc _).kept hg2 (by cases hv : (Value.slice aoL N capL).ownBlock <;> simp))
      | (at_builtin; refine wpList_append_grows _ rfl (.tmp 35) (.tmp 39) 32 rfl 3 i0 (.int .i64 0) 1 8 Tryz.underlying32 hi hz0 hz1 hz2 rfl (by decide) none 0 0 [] rfl (fun _ => ⟨rfl, rfl⟩) rfl (fun b h => by cases h) ⟨w2.heap.size, 0, none⟩ 3 3 [.int .i64 C, .int .i64 C, .int .i64 C] rfl rfl (cell_three_new w2 _ _ _ _) (by simp; rfl) (by omega) (by unfold maxLen; omega) (by omega) ?_; intro v3 w3 hr3 hg3; obtain ⟨b3, p3, rfl, hb3, hR3⟩ := own_marks hr3 (c := C) (fun j hj => by rcases j with _ | _ | _ | j <;> first | rfl | omega) (by omega); have hM3 := (hM2.alloc _).grown hg3 (by simp); have ho3 := (ho2.alloc _).kept hg3 (by cases hv : (Value.slice aoL N capL).ownBlock <;> simp); have hcL : w3.cell? ⟨gM, 0, none⟩ = some (.slice aoL N capL) := hM3.cell 0)
      | (at_builtin; refine wpList_append_own _ rfl (.tmp 45) (.tmp 50) 42 rfl w0.heap.size 32 i1 (.slice none 0 0) 1 24 Tryz.underlying42 hi1 hy0 hy1 hy2 rfl (by decide) (.slice aoL N capL) N Vs rfl (ho3.alloc _) ⟨w3.heap.size, 0, none⟩ 4 4 [.slice none 0 0, .slice (some ⟨b1, 0, none⟩) (0 + 1) p1, .slice (some ⟨b2, 0, none⟩) (0 + 2) p2, .slice (some ⟨b3, 0, none⟩) (0 + 3) p3] rfl rfl (cells4 w3 _ _ _ _ _) (by simp; exact ⟨rfl, rfl, rfl, rfl⟩) (by unfold maxLen; omega) (by omega) (by have z1 := hg1.size; have z2 := hg2.size; have z3 := hg3.size; simp at z1 z2 z3 ⊢; omega) ?_; intro vN w4 ho4 hg4 _; obtain ⟨gN, pN, rfl⟩ := own_form ho4 (by omega); have hne4 : some gM ≠ (Value.slice aoL N capL).ownBlock := blk_ne_own hM3 ho3 (by decide); have hM4 := (hM3.alloc (.cells #[.slice none 0 0, .slice (some ⟨b1, 0, none⟩) (0 + 1) p1, .slice (some ⟨b2, 0, none⟩) (0 + 2) p2, .slice (some ⟨b3, 0, none⟩) (0 + 3) p3] 32)).grown hg4 hne4; have hc4 : w4.cell? ⟨gM, 0, none⟩ = some (.slice aoL N capL) := hM4.cell 0; have hf4 := hM4.free 0))
    have z1 := hg1.size
    have z2 := hg2.size
    have z3 := hg3.size
    have z4 := hg4.size
    rw [size_alloc] at z1 z2 z3 z4 hb1 hb2 hb3
    have HP4 : Hid (K3 w3 (w4.setCell ⟨gM, 0, none⟩ (.slice (some ⟨gN, 0, none⟩) (N + 4) pN)) none) := fun b cs h1 _ => by
      have hb1 : Blk w3 b 3 cs := h1
      have hb2 := (hb1.alloc (.cells #[.slice none 0 0, .slice (some ⟨b1, 0, none⟩) (0 + 1) p1, .slice (some ⟨b2, 0, none⟩) (0 + 2) p2, .slice (some ⟨b3, 0, none⟩) (0 + 3) p3] 32)).grown hg4 (blk_ne_own hb1 ho3 (by decide))
      exact hb2.setOther (fun e => by
        have e' : b = gM := e
        subst e'
        unfold Blk at hM3
        rw [hM3] at h1
        cases h1) _
    have k1 : K3 W w1 none := (K3.grown (World.grownBy_alloc W (.cells #[.int .i64 C] 3) none)).trans (K3.grown hg1)
    have k2 : K3 w1 w2 none := (K3.grown (World.grownBy_alloc w1 (.cells #[.int .i64 C, .int .i64 C] 3) none)).trans (K3.grown hg2)
    have k3 : K3 w2 w3 none := (K3.grown (World.grownBy_alloc w2 (.cells #[.int .i64 C, .int .i64 C, .int .i64 C] 3) none)).trans (K3.grown hg3)
    have HKF : Hid (K3 W (w4.setCell ⟨gM, 0, none⟩ (.slice (some ⟨gN, 0, none⟩) (N + 4) pN)) none) := ((k1.trans k2).trans k3).trans HP4.out
    have l0 : Lst (w4.setCell ⟨gM, 0, none⟩ (.slice (some ⟨gN, 0, none⟩) (N + 4) pN)) (.slice none 0 0) 0 (II fun _ => C) := ⟨_, _, rfl, fun h => by omega⟩
    have l1 : Lst w1 (.slice (some ⟨b1, 0, none⟩) (0 + 1) p1) (0 + 1) (II fun _ => C) := ⟨_, _, rfl, fun _ => ⟨b1, rfl, hR1⟩⟩
    have l2 : Lst w2 (.slice (some ⟨b2, 0, none⟩) (0 + 2) p2) (0 + 2) (II fun _ => C) := ⟨_, _, rfl, fun _ => ⟨b2, rfl, hR2⟩⟩
    have l3 : Lst w3 (.slice (some ⟨b3, 0, none⟩) (0 + 3) p3) (0 + 3) (II fun _ => C) := ⟨_, _, rfl, fun _ => ⟨b3, rfl, hR3⟩⟩
    have L1 : Hid _ := ((k2.trans k3).trans HP4.out).lst l1 (.inr (by simp [Value.ownBlock]))
    have L2 : Hid _ := (k3.trans HP4.out).lst l2 (.inr (by simp [Value.ownBlock]))
    have L3 : Hid _ := HP4.out.lst l3 (.inr (by simp [Value.ownBlock]))
    have hneN : some gM ≠ (Value.slice (some ⟨gN, 0, none⟩) (N + 4) pN).ownBlock := blk_ne_own hM4 ho4 (by decide)
    have HOF : Hid _ := own_setOther ho4 ⟨gM, 0, none⟩ (.slice (some ⟨gN, 0, none⟩) (N + 4) pN) hneN
    have HMF : Hid (Blk (w4.setCell ⟨gM, 0, none⟩ (.slice (some ⟨gN, 0, none⟩) (N + 4) pN)) gM 44 #[.slice (some ⟨gN, 0, none⟩) (N + 4) pN]) := hM4.set 0 _
    have HBF : Hid (Below w0.heap.size w0 (w4.setCell ⟨gM, 0, none⟩ (.slice (some ⟨gN, 0, none⟩) (N + 4) pN))) := by
      have y1 := (hb.alloc hbsz (.cells #[.int .i64 C] 3)).grown hg1 (by rw [size_alloc]; omega) (fun k hk => by cases hk)
      have y2 := (y1.alloc (by omega) (.cells #[.int .i64 C, .int .i64 C] 3)).grown hg2 (by rw [size_alloc]; omega) (fun k hk => by cases hk)
      have y3 := (y2.alloc (by omega) (.cells #[.int .i64 C, .int .i64 C, .int .i64 C] 3)).grown hg3 (by rw [size_alloc]; omega) (fun k hk => by cases hk)
      have y4 := (y3.alloc (by omega) (.cells #[.slice none 0 0, .slice (some ⟨b1, 0, none⟩) (0 + 1) p1, .slice (some ⟨b2, 0, none⟩) (0 + 2) p2, .slice (some ⟨b3, 0, none⟩) (0 + 3) p3] 32)).grown hg4 (by rw [size_alloc]; omega) (fun k hk => (ho3.lt k hk).1)
      exact y4.setCell hgM _
    have HBL : Hid (∀ V, V ∈ [Value.slice (some ⟨b1, 0, none⟩) (0 + 1) p1, .slice (some ⟨b2, 0, none⟩) (0 + 2) p2, .slice (some ⟨b3, 0, none⟩) (0 + 3) p3] → ∃ b, V.ownBlock = some b ∧ W.heap.size ≤ b) := fun V hV => by
      simp only [List.mem_cons, List.not_mem_nil, or_false] at hV
      rcases hV with rfl | rfl | rfl
      · exact ⟨b1, rfl, by omega⟩
      · exact ⟨b2, rfl, by omega⟩
      · exact ⟨b3, rfl, by omega⟩
    have HBK : Hid (Bk (w4.setCell ⟨gM, 0, none⟩ (.slice (some ⟨gN, 0, none⟩) (N + 4) pN)) w0.heap.size gM (Vs ++ [.slice none 0 0, .slice (some ⟨b1, 0, none⟩) (0 + 1) p1, .slice (some ⟨b2, 0, none⟩) (0 + 2) p2, .slice (some ⟨b3, 0, none⟩) (0 + 3) p3])) := by
      refine Bk.more (w := W) (x := none) (j := j) (n := 0) (by rw [HLN.out]; exact HJ.out) (by rw [HLN.out]; exact H3.out) HKF.out (fun V _ => by cases V.ownBlock <;> simp) HMF.out (by rw [HLN.out]; exact HOF.out) (by omega) ?_ ?_ ?_ ?_
      · rw [HC.out]; exact l0
      · rw [HC.out]; exact L1.out
      · rw [HC.out]; exact L2.out
      · rw [HC.out]; exact L3.out
    have HUB : Hid (∀ V, V ∈ [Value.slice (some ⟨b1, 0, none⟩) (0 + 1) p1, .slice (some ⟨b2, 0, none⟩) (0 + 2) p2, .slice (some ⟨b3, 0, none⟩) (0 + 3) p3] → ∀ b, V.ownBlock = some b → b < (w4.setCell ⟨gM, 0, none⟩ (.slice (some ⟨gN, 0, none⟩) (N + 4) pN)).heap.size) := fun V hV b hbb => by
      simp only [List.mem_cons, List.not_mem_nil, or_false] at hV
      rcases hV with rfl | rfl | rfl
      · cases hbb; exact Lst.lt (k := 0 + 1) L1.out (by omega)
      · cases hbb; exact Lst.lt (k := 0 + 2) L2.out (by omega)
      · cases hbb; exact Lst.lt (k := 0 + 3) L3.out (by omega)
    exact bodyPost_end (results_none rfl _ _ _) rfl ⟨rfl, ⟨_, _, _, HBK.out, HBL.out, HUB.out⟩, HKF.out, HBF.out, by simp; omega⟩

/-- A list that came out: nil, or in a block of its own. -/
def LI (w : World) (B : Nat) (v : Value) (n : Nat) : Prop := (v = .slice none 0 0 ∧ n = 0) ∨ ∃ g cap, v = .slice (some ⟨g, 0, none⟩) n cap ∧ B ≤ g ∧ ∃ cur : Array Value, w.heap[g]? = some (.cells cur 3 (0, 0)) ∧ n ≤ cur.size ∧ cap ≤ cur.size
theorem OwnL.li {w : World} {B : Nat} {v : Value} {l : List Nat} (h : OwnL w B v l) : LI w B v l.length := by
  rcases h.2 with hn | ⟨g, cap, cur, hv, hb, h1, h2, _, h3, _⟩
  · exact .inl hn
  · exact .inr ⟨g, cap, hv, hb, cur, h1, by rw [h3]; omega, by rw [h3]; omega⟩
theorem LI.below {w w' : World} {B n : Nat} {v : Value} (h : LI w B v n) (hb : Below w.heap.size w w') : LI w' B v n := by
  rcases h with h | ⟨g, cap, hv, hB, cur, h1, rest⟩
  · exact .inl h
  · exact .inr ⟨g, cap, hv, hB, cur, by rw [hb.block g (Array.getElem?_eq_some_iff.1 h1).1]; exact h1, rest⟩
theorem LI.k3 {w w' : World} {B n : Nat} {v : Value} {x : Option Nat} (h : LI w B v n) (hk : K3 w w' x) (hne : v.ownBlock = none ∨ v.ownBlock ≠ x) : LI w' B v n := by
  rcases h with h | ⟨g, cap, rfl, hB, cur, h1, rest⟩
  · exact .inl h
  · rcases hne with hne | hne
    · cases hne
    · exact .inr ⟨g, cap, rfl, hB, cur, hk g cur h1 hne, rest⟩
theorem LI.base {w : World} {B B' n : Nat} {v : Value} (h : LI w B v n) (hB : B' ≤ B) : LI w B' v n := by
  rcases h with h | ⟨g, cap, hv, h1, rest⟩
  · exact .inl h
  · exact .inr ⟨g, cap, hv, by omega, rest⟩
theorem LI.lt {w : World} {B n b : Nat} {v : Value} (h : LI w B v n) (hb : v.ownBlock = some b) : B ≤ b ∧ b < w.heap.size := by
  rcases h with ⟨rfl, _⟩ | ⟨g, cap, rfl, h1, cur, h2, _⟩
  · cases hb
  · cases hb; exact ⟨h1, (Array.getElem?_eq_some_iff.1 h2).1⟩

/-- Either way. -/
theorem list_any {w0 w : World} {gM n j : Nat} {v : Value} {Vs : List Value} (hb : Below w0.heap.size w0 w) (hBk : Bk w w0.heap.size gM Vs) (hj : Vs.length = 4 * j) (hj2 : j ≤ 10) (hgM : w0.heap.size ≤ gM) (hn : n ≤ 3000) (hl : LI w w0.heap.size v n) (haw : ∀ V ∈ Vs, V.ownBlock = none ∨ V.ownBlock ≠ v.ownBlock) :
    Calls Tryz.prog 42 #[.pointer (some ⟨gM, 0, none⟩), v] w fun e w' => e = .returned (.tuple #[]) ∧ (∃ Us : List Value, Us.length = 4 ∧ Bk w' w0.heap.size gM (Vs ++ Us) ∧ (∀ V, V ∈ Us → V.ownBlock = none ∨ V.ownBlock = v.ownBlock ∨ ∃ b, V.ownBlock = some b ∧ w.heap.size ≤ b) ∧ ∀ V, V ∈ Us → ∀ b, V.ownBlock = some b → b < w'.heap.size) ∧ K3 w w' v.ownBlock ∧ Below w0.heap.size w0 w' ∧ w.heap.size ≤ w'.heap.size := by
  have hlt := fun b => LI.lt (b := b) hl
  rcases hl with ⟨rfl, rfl⟩ | ⟨g, cap, rfl, hg, hcur⟩
  · refine (list_nil hb hBk hj hj2 hgM).mono ?_
    rintro e w' ⟨he, ⟨V1, V2, V3, hB, hV, hU⟩, hk, hbw, hs⟩
    refine ⟨he, ⟨[.slice none 0 0, V1, V2, V3], rfl, hB, fun V hm => ?_, fun V hm => ?_⟩, hk, hbw, hs⟩
    · rcases List.mem_cons.1 hm with rfl | hm
      · exact .inl rfl
      · exact .inr (.inr (hV V hm))
    · rcases List.mem_cons.1 hm with rfl | hm
      · intro b hb'; cases hb'
      · exact hU V hm
  · refine (list_some hb hBk hj hj2 hgM hg hn hcur haw).mono ?_
    rintro e w' ⟨he, ⟨V1, V2, V3, hB, hV, hU⟩, hk, hbw, hs⟩
    refine ⟨he, ⟨[.slice (some ⟨g, 0, none⟩) n cap, V1, V2, V3], rfl, hB, fun V hm => ?_, fun V hm => ?_⟩, hk, hbw, hs⟩
    · rcases List.mem_cons.1 hm with rfl | hm
      · exact .inr (.inl rfl)
      · exact .inr (hV V hm)
    · rcases List.mem_cons.1 hm with rfl | hm
      · intro b hb'
        have := (hlt b hb').2
        omega
      · exact hU V hm
end Go.Proofs.YtkebgnpifmcmaabGreat

namespace Go.Proofs.YtkebgnpifmcmaabGreat
open Go.RowKit

set_option maxRecDepth 10000 in
set_option maxHeartbeats 2000000 in
theorem still_any {w : World} {B gM : Nat} {Vs : List Value} (hBk : Bk w B gM Vs) (hN : Vs.length ≤ 60) :
    Calls Tryz.prog 43 #[.pointer (some ⟨gM, 0, none⟩)] w fun e w' => e = .returned (.bool true) ∧ w' = w := by
  obtain ⟨vL, hM, ho, h3⟩ := hBk
  obtain ⟨aoL, capL, rfl⟩ : ∃ aoL capL, vL = .slice aoL Vs.length capL := by
    rcases ho.2 with ⟨rfl, h0⟩ | ⟨g', cp, cur', rfl, _⟩
    · exact ⟨none, 0, by rw [h0]⟩
    · exact ⟨_, _, rfl⟩
  have hc0 : w.cell? ⟨gM, 0, none⟩ = some (.slice aoL Vs.length capL) := hM.cell 0
  have HI : Hid (∀ i, i < Vs.length → ∃ gL ao k cp, aoL = some ⟨gL, 0, none⟩ ∧ w.cell? ⟨gL, i, none⟩ = some (.slice ao k cp) ∧ k ≤ 3010 ∧ (0 < k → ∃ g, ao = some ⟨g, 0, none⟩ ∧ Row w g 3 k (II fun _ => 1000000 + (i : Int) / 4))) := fun i hi => by
    obtain ⟨k, hk, ao, cp, hv, hr⟩ := h3 i hi
    rcases ho.2 with ⟨_, h0⟩ | ⟨gL, cpL, cur, hvL, hrest⟩
    · omega
    · obtain ⟨rfl, rfl⟩ : aoL = some ⟨gL, 0, none⟩ ∧ capL = cpL := by simpa using hvL
      have hci := ho.cells (g := gL) rfl i (Vs.getD i undef) (by rw [List.getD_eq_getElem?_getD, List.getElem?_eq_getElem hi]; rfl)
      rw [Addr.add_lit, Nat.zero_add, hv] at hci
      refine ⟨gL, ao, k, cp, rfl, hci, hk, fun h0 => ?_⟩
      obtain ⟨g, hg, hrow⟩ := hr h0
      have e : ((1000000 + i / 4 : Nat) : Int) = 1000000 + (i : Int) / 4 := by simp
      rw [e] at hrow
      exact ⟨g, hg, hrow⟩
  clear h3 ho hM
  generalize Vs.length = N at *
  go_enter Tryz.func43, Tryz.ntmps43
  go_wp2_with fail
  go_loopw [3, 4] (fun iv _ wr => ∃ i : Nat, i ≤ N ∧ iv = .int .i64 (i : Int) ∧ wr = w) (fun iv _ _ => N - (intOf iv).toNat)
  case atStart => exact ⟨0, Nat.zero_le _, rfl, rfl⟩
  case round =>
    obtain ⟨i, hi, rfl, rfl⟩ := hrel
    by_cases hlt : i < N
    · obtain ⟨gL, ao, k, cp, rfl, hci, hk, hr⟩ := HI.out i hlt
      go_wp2_with fail
      go_loopw [4] (fun kv w2 => ∃ x : Nat, x ≤ k ∧ kv = .int .i64 (x : Int) ∧ w2 = wr) (fun kv _ => k - (intOf kv).toNat)
      case atStart => exact ⟨0, Nat.zero_le _, rfl, rfl⟩
      case round =>
        obtain ⟨x, hx, rfl, rfl⟩ := hrel
        by_cases hlt2 : x < k
        · obtain ⟨g, rfl, hrow⟩ := hr (by omega)
          have hcx : wr.cell? ⟨g, x, none⟩ = some (.int .i64 (1000000 + (i : Int) / 4)) := hrow.cell hlt2
          go_wp2
          go_roundw
          case rel => exact ⟨x + 1, by omega, by go_num, trivial⟩
          case measure => simp [intOf]; omega
        · go_wp2
          go_roundw
          case rel => exact ⟨i + 1, by omega, by go_num, trivial⟩
          case measure => simp [intOf]; omega
    · go_wp2
      go_ret
      exact ⟨rfl, rfl⟩
end Go.Proofs.YtkebgnpifmcmaabGreat

namespace Go.Proofs.YtkebgnpifmcmaabGreat
open Go.RowKit

set_option maxRecDepth 10000 in
set_option maxHeartbeats 400000 in
theorem suffixesC_ok (s : ByteArray) (w : World) (hn : s.size ≤ 2000) :
    Calls Tryz.prog 40 #[.string s] w fun e w' => ∃ v f, e = .returned (.tuple #[v, .int .i64 0]) ∧ LI w' w.heap.size v (s.size + 1) ∧ Lst w' v (s.size + 1) (IN f) ∧ Below w.heap.size w w' ∧ IsSA (tx s) f := by
  go_enter Tryz.func40, Tryz.ntmps40
  go_wp2_with (go_at_call 65; refine (sortC_any s _ hn).mono ?_; rintro e w1 ⟨f, ⟨g, cap, rfl, hc1, hc2, hg, hr, hb⟩, hsa⟩)
  go_ret2
  refine ⟨_, f, rfl, ?_, ⟨_, _, rfl, fun _ => ⟨g, rfl, hr⟩⟩, hb, hsa⟩
  obtain ⟨cur, h1, h2, _⟩ := hr
  exact .inr ⟨g, cap, rfl, hg, cur, h1, h2, by omega⟩

/-- What the program answers, and the document: the same list. -/
def AnsP (F : Nat) (args : Array Value) (n : Nat) (G : Nat → Int) : Prop := ∀ w, Calls Tryz.prog F args w fun e w' => ∃ v er, e = .returned (.tuple #[v, .int .i64 er]) ∧ LI w' w.heap.size v n ∧ Lst w' v n (II G) ∧ Below w.heap.size w w'
def AnsR (F : Nat) (args : Array Value) (n : Nat) (G : Nat → Int) : Prop := ∀ w, Calls Tryz.prog F args w fun e w' => ∃ v er, e = .returned (.tuple #[v, .int .i64 er]) ∧ Lst w' v n (II G) ∧ Below w.heap.size w w'
theorem lst_nil (w : World) (F : Nat → Value) : Lst w (.slice none 0 0) 0 F := ⟨_, _, rfl, fun h => by omega⟩
theorem filt_le (B : Nat → Bool) (m : Nat) (h : m ≤ 2001) : (filt B m).length ≤ 3000 := by
  rw [filt_length]; have := cntB_le B m; omega

theorem pair_locate (im s p : ByteArray) (hR : Reads im) (ht : imT im = tx s) (hn : s.size ≤ 2000) (hp : p.size ≤ maxLen) : ∃ n G, n ≤ 3000 ∧ AnsP 19 #[.string im, .string p] n G ∧ AnsR 31 #[.string s, .string p, .int .i64 0] n G := by
  by_cases hsz : 0 < p.size ∧ p.size ≤ 30
  · refine ⟨(filt (stP (tx s) (tx p)) (s.size + 1)).length, fun j => ((filt (stP (tx s) (tx p)) (s.size + 1)).getD j 0 : Int), filt_le _ _ (by omega), fun w => (locate_any im p w hp).mono (fun e w' hh => ?_), fun w => (refWrong_zero s p w hn hsz.1 hsz.2).mono (fun e w' ⟨v, he, ho, hb⟩ => ⟨v, 0, he, ho.lst, hb⟩)⟩
    rcases hh with ⟨⟨h, _⟩ | ⟨_, h, _⟩ | ⟨_, _, v, he, ho⟩, hb⟩
    · exact absurd hR h
    · exact absurd hsz h
    · rw [ht, tx_length] at ho; exact ⟨v, 0, he, ho.li, ho.lst, hb⟩
  · refine ⟨0, fun _ => 0, by omega, fun w => (locate_any im p w hp).mono (fun e w' hh => ?_), fun w => (refWrong_bad s p w hp hsz).mono (fun e w' hh => ⟨_, _, hh.1, lst_nil _ _, hh.2 ▸ Below.refl _ _⟩)⟩
    rcases hh with ⟨⟨h, _⟩ | ⟨_, h, he⟩ | ⟨_, h, _⟩, hb⟩
    · exact absurd hR h
    · exact ⟨_, _, he, .inl ⟨rfl, rfl⟩, lst_nil _ _, hb⟩
    · exact absurd h hsz
theorem pair_wrong (im s p : ByteArray) (kk : Int) (hR : Reads im) (ht : imT im = tx s) (hn : s.size ≤ 2000) (hp : p.size ≤ maxLen) : ∃ n G, n ≤ 3000 ∧ AnsP 18 #[.string im, .string p, .int .i64 kk] n G ∧ AnsR 31 #[.string s, .string p, .int .i64 kk] n G := by
  by_cases hsz : 0 < p.size ∧ p.size ≤ 30
  · by_cases hK : 0 ≤ kk ∧ kk ≤ 4
    · obtain ⟨k, rfl⟩ : ∃ k : Nat, kk = (k : Int) := ⟨kk.toNat, by omega⟩
      refine ⟨(filt (wrP (tx s) (tx p) k) (s.size + 1)).length, fun j => ((filt (wrP (tx s) (tx p) k) (s.size + 1)).getD j 0 : Int), filt_le _ _ (by omega), fun w => (wrong_any im p (k : Int) w hp).mono (fun e w' hh => ?_), fun w => (refWrong_k s p k w hn hsz.1 hsz.2 (by omega)).mono (fun e w' ⟨v, he, ho, hb⟩ => ⟨v, 0, he, ho.lst, hb⟩)⟩
      rcases hh with ⟨⟨h, _⟩ | ⟨_, h, _⟩ | ⟨_, _, h, _⟩ | ⟨_, _, _, v, he, ho⟩, hb⟩
      · exact absurd hR h
      · exact absurd hsz h
      · exact absurd hK h
      · rw [ht, tx_length, Int.toNat_natCast] at ho; exact ⟨v, 0, he, ho.li, ho.lst, hb⟩
    · refine ⟨0, fun _ => 0, by omega, fun w => (wrong_any im p kk w hp).mono (fun e w' hh => ?_), fun w => (refWrong_badK s p kk w hsz.1 hsz.2 (by omega)).mono (fun e w' hh => ⟨_, _, hh.1, lst_nil _ _, hh.2 ▸ Below.refl _ _⟩)⟩
      rcases hh with ⟨⟨h, _⟩ | ⟨_, h, _⟩ | ⟨_, _, _, he⟩ | ⟨_, _, h, _⟩, hb⟩
      · exact absurd hR h
      · exact absurd hsz h
      · exact ⟨_, _, he, .inl ⟨rfl, rfl⟩, lst_nil _ _, hb⟩
      · exact absurd h hK
  · refine ⟨0, fun _ => 0, by omega, fun w => (wrong_any im p kk w hp).mono (fun e w' hh => ?_), fun w => (refWrong_badP s p kk w hp hsz).mono (fun e w' hh => ⟨_, _, hh.1, lst_nil _ _, hh.2 ▸ Below.refl _ _⟩)⟩
    rcases hh with ⟨⟨h, _⟩ | ⟨_, _, he⟩ | ⟨_, h, _⟩ | ⟨_, h, _⟩, hb⟩
    · exact absurd hR h
    · exact ⟨_, _, he, .inl ⟨rfl, rfl⟩, lst_nil _ _, hb⟩
    · exact absurd h hsz
    · exact absurd h hsz
theorem pair_edits (im s p : ByteArray) (kk : Int) (hR : Reads im) (ht : imT im = tx s) (hn : s.size ≤ 2000) (hp : p.size ≤ maxLen) : ∃ n G, n ≤ 3000 ∧ AnsP 22 #[.string im, .string p, .int .i64 kk] n G ∧ AnsR 34 #[.string s, .string p, .int .i64 kk] n G := by
  by_cases hsz : 0 < p.size ∧ p.size ≤ 30
  · by_cases hK : 0 ≤ kk ∧ kk ≤ 4 ∧ kk < (p.size : Int)
    · obtain ⟨k, rfl⟩ : ∃ k : Nat, kk = (k : Int) := ⟨kk.toNat, by omega⟩
      refine ⟨(filt (neB (tx s) (tx p) k) (s.size + 1)).length, fun j => ((filt (neB (tx s) (tx p) k) (s.size + 1)).getD j 0 : Int), filt_le _ _ (by omega), fun w => (edits_any im p (k : Int) w hp).mono (fun e w' hh => ?_), fun w => (refEdits_k s p k w hn hsz.1 hsz.2 (by omega) (by omega)).mono (fun e w' ⟨v, he, ho, hb⟩ => ⟨v, 0, he, ho.lst, hb⟩)⟩
      rcases hh with ⟨⟨h, _⟩ | ⟨_, h, _⟩ | ⟨_, _, h, _⟩ | ⟨_, _, _, v, he, ho⟩, hb⟩
      · exact absurd hR h
      · exact absurd hsz h
      · exact absurd hK h
      · rw [ht, tx_length, Int.toNat_natCast] at ho; exact ⟨v, 0, he, ho.li, ho.lst, hb⟩
    · refine ⟨0, fun _ => 0, by omega, fun w => (edits_any im p kk w hp).mono (fun e w' hh => ?_), fun w => (refEdits_badK s p kk w hsz.1 hsz.2 (by omega)).mono (fun e w' hh => ⟨_, _, hh.1, lst_nil _ _, hh.2 ▸ Below.refl _ _⟩)⟩
      rcases hh with ⟨⟨h, _⟩ | ⟨_, h, _⟩ | ⟨_, _, _, he⟩ | ⟨_, _, h, _⟩, hb⟩
      · exact absurd hR h
      · exact absurd hsz h
      · exact ⟨_, _, he, .inl ⟨rfl, rfl⟩, lst_nil _ _, hb⟩
      · exact absurd h hK
  · refine ⟨0, fun _ => 0, by omega, fun w => (edits_any im p kk w hp).mono (fun e w' hh => ?_), fun w => (refEdits_badP s p kk w hp hsz).mono (fun e w' hh => ⟨_, _, hh.1, lst_nil _ _, hh.2 ▸ Below.refl _ _⟩)⟩
    rcases hh with ⟨⟨h, _⟩ | ⟨_, _, he⟩ | ⟨_, h, _⟩ | ⟨_, h, _⟩, hb⟩
    · exact absurd hR h
    · exact ⟨_, _, he, .inl ⟨rfl, rfl⟩, lst_nil _ _, hb⟩
    · exact absurd h hsz
    · exact absurd h hsz
/-- Of two lists, one made behind the other. -/
theorem LI.apart {w w' : World} {B B' n n' : Nat} {v v' : Value} (h : LI w B v n) (h' : LI w' B' v' n') (hB : w.heap.size ≤ B') : v.ownBlock = none ∨ v.ownBlock ≠ v'.ownBlock := by
  cases hv : v.ownBlock with
  | none => exact .inl rfl
  | some b =>
    refine .inr (fun e => ?_)
    have h1 := (h.lt hv).2
    have h2 := (h'.lt e.symm).1
    omega
end Go.Proofs.YtkebgnpifmcmaabGreat

namespace Go.Proofs.YtkebgnpifmcmaabGreat
open Go.RowKit

/-- Two lists lie apart. -/
def Apart (v v' : Value) : Prop := (v.ownBlock = none ∨ v.ownBlock ≠ v'.ownBlock) ∧ (v'.ownBlock = none ∨ v'.ownBlock ≠ v.ownBlock)
theorem LI.apart2 {w w' : World} {B B' n n' : Nat} {v v' : Value} (h : LI w B v n) (h' : LI w' B' v' n') (hB : w.heap.size ≤ B') : Apart v v' := by
  refine ⟨h.apart h' hB, ?_⟩
  cases hv : v'.ownBlock with
  | none => exact .inl rfl
  | some b =>
    refine .inr (fun e => ?_)
    have h1 := (h.lt e.symm).2
    have h2 := (h'.lt hv).1
    omega
theorem away_old {w w' : World} {B n S : Nat} {v : Value} {Vs : List Value} (hV : ∀ V ∈ Vs, ∀ b, V.ownBlock = some b → b < S) (h : LI w' B v n) (hB : S ≤ B) (_hw : w = w) : ∀ V ∈ Vs, V.ownBlock = none ∨ V.ownBlock ≠ v.ownBlock := fun V hm => by
  cases hv : V.ownBlock with
  | none => exact .inl rfl
  | some b =>
    refine .inr (fun e => ?_)
    have h1 := hV V hm b hv
    have h2 := (h.lt e.symm).1
    omega
theorem away_new {w : World} {B n : Nat} {v u : Value} {Us : List Value} (hU : ∀ V, V ∈ Us → V.ownBlock = none ∨ V.ownBlock = v.ownBlock ∨ ∃ b, V.ownBlock = some b ∧ w.heap.size ≤ b) (h : LI w B u n) (ha : Apart v u) : ∀ V ∈ Us, V.ownBlock = none ∨ V.ownBlock ≠ u.ownBlock := fun V hm => by
  rcases hU V hm with h1 | h1 | ⟨b, h1, h2⟩
  · exact .inl h1
  · rw [h1]; exact ha.1
  · refine .inr (fun e => ?_)
    rw [h1] at e
    have := (h.lt e.symm).2
    omega
theorem away_app {Vs Us : List Value} {x : Option Nat} (h : ∀ V ∈ Vs, V.ownBlock = none ∨ V.ownBlock ≠ x) (h' : ∀ V ∈ Us, V.ownBlock = none ∨ V.ownBlock ≠ x) : ∀ V ∈ Vs ++ Us, V.ownBlock = none ∨ V.ownBlock ≠ x := fun V hm => by
  rcases List.mem_append.1 hm with h1 | h1
  · exact h V h1
  · exact h' V h1
theorem away_later {w w' : World} {v u : Value} {Us : List Value} (hU : ∀ V, V ∈ Us → V.ownBlock = none ∨ V.ownBlock = v.ownBlock ∨ ∃ b, V.ownBlock = some b ∧ w.heap.size ≤ b) {B n : Nat} (h : LI w B u n) (ha : Apart v u) (_h : w.heap.size ≤ w'.heap.size) : ∀ V ∈ Us, V.ownBlock = none ∨ V.ownBlock ≠ u.ownBlock := away_new hU h ha
theorem lt_app {Vs Us : List Value} {S S' : Nat} (h : ∀ V ∈ Vs, ∀ b, V.ownBlock = some b → b < S) (hS : S ≤ S') (h' : ∀ V, V ∈ Us → ∀ b, V.ownBlock = some b → b < S') : ∀ V ∈ Vs ++ Us, ∀ b, V.ownBlock = some b → b < S' := fun V hm b hb => by
  rcases List.mem_append.1 hm with h1 | h1
  · have := h V h1 b hb; omega
  · exact h' V h1 b hb

set_option maxRecDepth 10000 in
set_option maxHeartbeats 4000000 in
theorem round_any {w0 w : World} {gM j : Nat} {Vs : List Value} (hb : Below w0.heap.size w0 w) (hBk : Bk w w0.heap.size gM Vs) (hj : Vs.length = 4 * j) (hj2 : j ≤ 4) (hgM : w0.heap.size ≤ gM) (hVs : ∀ V ∈ Vs, ∀ b, V.ownBlock = some b → b < w.heap.size)
    (im s p : ByteArray) (kk : Int) (hR : Reads im) (ht : imT im = tx s) (hn : s.size ≤ 2000) (hp : p.size ≤ maxLen) :
    Calls Tryz.prog 24 #[.pointer (some ⟨gM, 0, none⟩), .string im, .string s, .string p, .int .i64 kk] w fun e w' => e = .returned (.bool true) ∧ (∃ Us : List Value, Us.length = 16 ∧ Bk w' w0.heap.size gM (Vs ++ Us) ∧ ∀ V ∈ Vs ++ Us, ∀ b, V.ownBlock = some b → b < w'.heap.size) ∧ Below w0.heap.size w0 w' := by
  obtain ⟨nc, Gc, hnc, hPc, hRc⟩ := pair_locate im s p hR ht hn hp
  obtain ⟨ne, Ge, hne, hPe, hRe⟩ := pair_wrong im s p kk hR ht hn hp
  obtain ⟨ng, Gg, hng, hPg, hRg⟩ := pair_edits im s p kk hR ht hn hp
  have HPc : Hid _ := hPc
  have HRc : Hid _ := hRc
  have HPe : Hid _ := hPe
  have HRe : Hid _ := hRe
  have HPg : Hid _ := hPg
  have HRg : Hid _ := hRg
  have HSU : Hid _ := suffixesC_ok s w hn
  have HRS : Hid (∀ w, Calls Tryz.prog 41 #[.string s] w fun e w' => ∃ g cap f, e = .returned (.tuple #[.slice (some ⟨g, 0, none⟩) (s.size + 1) cap, .int .i64 0]) ∧ Row w' g 3 (s.size + 1) (IN f) ∧ Below w.heap.size w w' ∧ IsSA (tx s) f) := fun w => (refSuffixes_ok s w hn).mono (fun e w' ⟨g, cap, f, he, _, _, _, hr, hb, hs⟩ => ⟨g, cap, f, he, hr, hb, hs⟩)
  have HVS : Hid (∀ V ∈ Vs, ∀ b, V.ownBlock = some b → b < w.heap.size) := hVs
  have HBK : Hid (Bk w w0.heap.size gM Vs) := hBk
  have hbz := hb.size
  clear hPc hRc hPe hRe hPg hRg hR ht hp hVs hBk
  go_enter Tryz.func24, Tryz.ntmps24
  go_wp2_with fail
  refine Calls.mono HSU.out ?_
  clear HSU
  rintro en w1 ⟨va, f1, rfl, ia, la, b1, hsa⟩
  go_wp2_with fail
  refine Calls.mono (HRS.out w1) ?_
  clear HRS
  rintro en w2 ⟨gb, capb, f2, rfl, hrb, b2, hsb⟩
  have heq := hsa.unique hsb
  rw [tx_length] at heq
  have la2 : Lst w2 va (s.size + 1) (II fun j => (f2 j : Int)) := by
    obtain ⟨ao, cp, hv, hr⟩ := la.below b2
    refine ⟨ao, cp, hv, fun h => ?_⟩
    obtain ⟨g, hg, hrow⟩ := hr h
    exact ⟨g, hg, hrow.congr (fun j hj => by simp only [IN, II, heq j (by omega)])⟩
  have lb2 : Lst w2 (.slice (some ⟨gb, 0, none⟩) (s.size + 1) capb) (s.size + 1) (II fun j => (f2 j : Int)) := ⟨_, _, rfl, fun _ => ⟨gb, rfl, hrb⟩⟩
  have ia := ia.below b2
  have B2 : Below w.heap.size w w2 := b1.trans (b2.mono b1.size)
  clear la hsa hsb heq hrb b1 b2
  generalize (Value.slice (some ⟨gb, 0, none⟩) (s.size + 1) capb) = vb at *
  go_wp2_with fail
  refine Calls.mono (HPc.out w2) ?_
  clear HPc
  rintro en w3 ⟨vc, ec, rfl, ic, lc, b3⟩
  have Aac := ia.apart2 ic (Nat.le_refl _)
  have ia := ia.below b3
  have la2 := la2.below b3
  have lb2 := lb2.below b3
  have ic := ic.base (B' := w.heap.size) B2.size
  have B3 := B2.trans (b3.mono B2.size)
  clear B2 b3
  go_wp2_with fail
  refine Calls.mono (HRc.out w3) ?_
  clear HRc
  rintro en w4 ⟨vd, ed, rfl, ld, b4⟩
  have ia := ia.below b4
  have ic := ic.below b4
  have la2 := la2.below b4
  have lb2 := lb2.below b4
  have lc := lc.below b4
  have B4 := B3.trans (b4.mono B3.size)
  clear B3 b4
  go_wp2_with fail
  refine Calls.mono (HPe.out w4) ?_
  clear HPe
  rintro en w5 ⟨ve, ee, rfl, ie, le, b5⟩
  have Aae := ia.apart2 ie (Nat.le_refl _)
  have Ace := ic.apart2 ie (Nat.le_refl _)
  have ia := ia.below b5
  have ic := ic.below b5
  have la2 := la2.below b5
  have lb2 := lb2.below b5
  have lc := lc.below b5
  have ld := ld.below b5
  have ie := ie.base (B' := w.heap.size) B4.size
  have B5 := B4.trans (b5.mono B4.size)
  clear B4 b5
  go_wp2_with fail
  refine Calls.mono (HRe.out w5) ?_
  clear HRe
  rintro en w6 ⟨vf, ef, rfl, lf, b6⟩
  have ia := ia.below b6
  have ic := ic.below b6
  have ie := ie.below b6
  have la2 := la2.below b6
  have lb2 := lb2.below b6
  have lc := lc.below b6
  have ld := ld.below b6
  have le := le.below b6
  have B6 := B5.trans (b6.mono B5.size)
  clear B5 b6
  go_wp2_with fail
  refine Calls.mono (HPg.out w6) ?_
  clear HPg
  rintro en w7 ⟨vg, eg, rfl, ig, lg, b7⟩
  have Aag := ia.apart2 ig (Nat.le_refl _)
  have Acg := ic.apart2 ig (Nat.le_refl _)
  have Aeg := ie.apart2 ig (Nat.le_refl _)
  have ia := ia.below b7
  have ic := ic.below b7
  have ie := ie.below b7
  have la2 := la2.below b7
  have lb2 := lb2.below b7
  have lc := lc.below b7
  have ld := ld.below b7
  have le := le.below b7
  have lf := lf.below b7
  have ig := ig.base (B' := w.heap.size) B6.size
  have B7 := B6.trans (b7.mono B6.size)
  clear B6 b7
  go_wp2_with fail
  refine Calls.mono (HRg.out w7) ?_
  clear HRg
  rintro en w8 ⟨vh, eh, rfl, lh, b8⟩
  have ia := ia.below b8
  have ic := ic.below b8
  have ie := ie.below b8
  have ig := ig.below b8
  have la2 := la2.below b8
  have lb2 := lb2.below b8
  have lc := lc.below b8
  have ld := ld.below b8
  have le := le.below b8
  have lf := lf.below b8
  have lg := lg.below b8
  have B8 := B7.trans (b8.mono B7.size)
  clear B7 b8
  have H1 : Hid _ := same_true va vb (s.size + 1) (fun j => (f2 j : Int)) w8 (by omega) la2 lb2
  clear la2 lb2
  go_wp2_with fail
  refine Calls.mono H1.out ?_
  clear H1
  rintro en x1 ⟨rfl, q1, rfl⟩
  have d1 : Below w8.heap.size w8 (w8.drewN q1) := below_drewN (Below.refl _ _) q1
  have ia := ia.below d1
  have ic := ic.below d1
  have ie := ie.below d1
  have ig := ig.below d1
  have lc := lc.below d1
  have ld := ld.below d1
  have le := le.below d1
  have lf := lf.below d1
  have lg := lg.below d1
  have lh := lh.below d1
  have B9 := below_drewN B8 q1
  clear B8 d1
  generalize w8.drewN q1 = X1 at *
  have H1 : Hid _ := same_true vc vd nc Gc X1 hnc lc ld
  clear lc ld
  go_wp2_with fail
  refine Calls.mono H1.out ?_
  clear H1
  rintro en x2 ⟨rfl, q2, rfl⟩
  have d1 : Below X1.heap.size X1 (X1.drewN q2) := below_drewN (Below.refl _ _) q2
  have ia := ia.below d1
  have ic := ic.below d1
  have ie := ie.below d1
  have ig := ig.below d1
  have le := le.below d1
  have lf := lf.below d1
  have lg := lg.below d1
  have lh := lh.below d1
  have B10 := below_drewN B9 q2
  clear B9 d1
  generalize X1.drewN q2 = X2 at *
  have H1 : Hid _ := same_true ve vf ne Ge X2 hne le lf
  clear le lf
  go_wp2_with fail
  refine Calls.mono H1.out ?_
  clear H1
  rintro en x3 ⟨rfl, q3, rfl⟩
  have d1 : Below X2.heap.size X2 (X2.drewN q3) := below_drewN (Below.refl _ _) q3
  have ia := ia.below d1
  have ic := ic.below d1
  have ie := ie.below d1
  have ig := ig.below d1
  have lg := lg.below d1
  have lh := lh.below d1
  have B11 := below_drewN B10 q3
  clear B10 d1
  generalize X2.drewN q3 = X3 at *
  have H1 : Hid _ := same_true vg vh ng Gg X3 hng lg lh
  clear lg lh
  go_wp2_with fail
  refine Calls.mono H1.out ?_
  clear H1
  rintro en x4 ⟨rfl, q4, rfl⟩
  have d1 : Below X3.heap.size X3 (X3.drewN q4) := below_drewN (Below.refl _ _) q4
  have ia := ia.below d1
  have ic := ic.below d1
  have ie := ie.below d1
  have ig := ig.below d1
  have B12 := below_drewN B11 q4
  clear B11 d1
  generalize X3.drewN q4 = X4 at *
  have BK0 : Hid (Bk X4 w0.heap.size gM Vs) := HBK.out.below B12
  have z0 := B12.size
  have bw0 := hb.trans (B12.mono hbz)
  have ws : ∀ {W : World} {v : Value} {n : Nat}, LI W w.heap.size v n → ∀ V ∈ Vs, V.ownBlock = none ∨ V.ownBlock ≠ v.ownBlock := fun h => away_old (w := w) HVS.out h (Nat.le_refl _) rfl
  have WA : Hid _ := ws ia
  have WC : Hid _ := ws ic
  have WE : Hid _ := ws ie
  have WG : Hid _ := ws ig
  clear ws B12
  have HL : Hid _ := list_any bw0 BK0.out hj (by omega) hgM (by omega) (ia.base hbz) WA.out
  clear WA
  go_wp2_with fail
  refine Calls.mono HL.out ?_
  clear HL
  rintro en y1 ⟨rfl, ⟨U1, hl1, BK1, hu1, hv1⟩, k1, c1, s1⟩
  have BK1 : Hid _ := BK1
  have WC := away_app WC.out (away_new hu1 ic Aac)
  have WE := away_app WE.out (away_new hu1 ie Aae)
  have WG := away_app WG.out (away_new hu1 ig Aag)
  have ic := ic.k3 k1 Aac.2
  have ie := ie.k3 k1 Aae.2
  have ig := ig.k3 k1 Aag.2
  have VB1 := lt_app HVS.out (Nat.le_trans z0 s1) hv1
  clear hu1 hv1 k1 BK0
  have HL : Hid _ := list_any (n := nc) (j := j + 1) c1 BK1.out (by rw [List.length_append]; omega) (by omega) hgM hnc (ic.base hbz) WC
  clear WC
  go_wp2_with fail
  refine Calls.mono HL.out ?_
  clear HL
  rintro en y2 ⟨rfl, ⟨U2, hl2, BK2, hu2, hv2⟩, k2, c2, s2⟩
  have BK2 : Hid _ := BK2
  have WE := away_app WE (away_new hu2 ie Ace)
  have WG := away_app WG (away_new hu2 ig Acg)
  have ie := ie.k3 k2 Ace.2
  have ig := ig.k3 k2 Acg.2
  have VB2 := lt_app VB1 s2 hv2
  clear hu2 hv2 k2 BK1 VB1
  have HL : Hid _ := list_any (n := ne) (j := j + 2) c2 BK2.out (by rw [List.length_append, List.length_append]; omega) (by omega) hgM hne (ie.base hbz) WE
  clear WE
  go_wp2_with fail
  refine Calls.mono HL.out ?_
  clear HL
  rintro en y3 ⟨rfl, ⟨U3, hl3, BK3, hu3, hv3⟩, k3, c3, s3⟩
  have BK3 : Hid _ := BK3
  have WG := away_app WG (away_new hu3 ig Aeg)
  have ig := ig.k3 k3 Aeg.2
  have VB3 := lt_app VB2 s3 hv3
  clear hu3 hv3 k3 BK2 VB2
  have HL : Hid _ := list_any (n := ng) (j := j + 3) c3 BK3.out (by rw [List.length_append, List.length_append, List.length_append]; omega) (by omega) hgM hng (ig.base hbz) WG
  clear WG
  go_wp2_with fail
  refine Calls.mono HL.out ?_
  clear HL
  rintro en y4 ⟨rfl, ⟨U4, hl4, BK4, hu4, hv4⟩, k4, c4, s4⟩
  have BK4 : Hid _ := BK4
  have VB4 := lt_app VB3 s4 hv4
  clear hu4 hv4 k4 BK3 VB3
  have HS : Hid _ := still_any BK4.out (by rw [List.length_append, List.length_append, List.length_append, List.length_append]; omega)
  go_wp2_with fail
  refine Calls.mono HS.out ?_
  clear HS
  rintro en y5 ⟨rfl, rfl⟩
  have HF : Hid (∃ Us : List Value, Us.length = 16 ∧ Bk y5 w0.heap.size gM (Vs ++ Us) ∧ ∀ V ∈ Vs ++ Us, ∀ b, V.ownBlock = some b → b < y5.heap.size) := by
    refine ⟨U1 ++ (U2 ++ (U3 ++ U4)), by rw [List.length_append, List.length_append, List.length_append]; omega, ?_, ?_⟩
    · have := BK4.out
      simp only [List.append_assoc] at this
      exact this
    · have := VB4
      simp only [List.append_assoc] at this
      exact this
  clear BK4 VB4
  go_wp2
  go_ret
  exact ⟨rfl, HF.out, c4⟩
end Go.Proofs.YtkebgnpifmcmaabGreat
