import Derived.Test.YtkebgnpifmcmaabGreatHE
namespace Go.Proofs.YtkebgnpifmcmaabGreat
open Go.RowKit

set_option maxRecDepth 10000 in
set_option maxHeartbeats 1000000 in
theorem fresh_walk (a0 : ByteArray) (a1 : Int) (a2 : ByteArray) (a3 : Int) (w0 : a0.size ≤ maxLen) (w1 : (Lit.int .i64 a1).wf = true) (w2 : a2.size ≤ maxLen) (w : World) :
    Calls Tryz.prog 7 #[.string a0, .int .i64 a1, .string a2, .int .i64 a3] w fun e w' => e = .returned (.bool true) ∧ Below w.heap.size w w' := by
  have HM : Hid _ := made_any a0 a1 w w0 w1
  go_enter Tryz.func7, Tryz.ntmps7
  go_wp2_with fail
  refine Calls.mono HM.out ?_
  clear HM
  rintro en wa ⟨im, s, rate, hI, hs, rfl, hb1⟩
  have bA : Below wa.heap.size wa (wa.alloc (.cells #[.slice none 0 0] 44)) := (Below.refl _ _).alloc (Nat.le_refl _) _
  have bk0 : Bk (wa.alloc (.cells #[.slice none 0 0] 44)) wa.heap.size wa.heap.size [] := ⟨_, Blk.new wa _ _, World.ownsRow_nil _ _ _ _, fun i hi => by simp at hi⟩
  have HR1 : Hid _ := round_any (j := 0) bA bk0 rfl (by omega) (Nat.le_refl _) (fun V hV => by simp at hV) im s a2 a3 hI.1 hI.2.1 hs w2
  have HI : Hid (Reads im ∧ imT im = tx s) := ⟨hI.1, hI.2.1⟩
  clear hI bA bk0
  go_wp2_with fail
  refine Calls.mono HR1.out ?_
  clear HR1
  rintro en wb ⟨rfl, ⟨Us, hl, bk1, hv⟩, b2⟩
  have HR2 : Hid _ := round_any (j := 4) b2 bk1 (by rw [List.nil_append]; exact hl) (by omega) (Nat.le_refl _) hv im s a2 a3 HI.out.1 HI.out.2 hs w2
  clear bk1 hv b2
  go_wp2_with fail
  refine Calls.mono HR2.out ?_
  clear HR2
  rintro en wc ⟨rfl, _, b3⟩
  have hbF := hb1.trans (b3.mono hb1.size)
  go_wp2
  go_ret
  exact ⟨rfl, hbF⟩
end Go.Proofs.YtkebgnpifmcmaabGreat
