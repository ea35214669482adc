import Derived.Test.YtkebgnpifmcmaabGreatHC
namespace Go.Proofs.YtkebgnpifmcmaabGreat
open Go.RowKit

set_option maxRecDepth 10000 in
set_option maxHeartbeats 2000000 in
theorem all_walk (a0 : ByteArray) (a1 : Int) (a2 : ByteArray) (a30 a31 a32 a4 a5 : Int) (a6 : ByteArray) (a7 : Int) (w0 : a0.size ≤ maxLen) (w1 : (Lit.int .i64 a1).wf = true) (w5 : (Lit.int .i64 a5).wf = true) (w6 : a6.size ≤ maxLen) (w : World) :
    Calls Tryz.prog 8 #[.string a0, .int .i64 a1, .string a2, .agg #[.int .i64 a30, .int .i64 a31, .int .i64 a32], .int .i64 a4, .int .i64 a5, .string a6, .int .i64 a7] w fun e w' => e = .returned (.bool true) ∧ Below w.heap.size w w' := by
  have HSO : Hid (∀ w, Calls Tryz.prog 25 #[.string a0] w fun e w' => e = .returned (.bool true) ∧ Below w.heap.size w w') := fun w => sorts_walk a0 w0 w
  have HTR : Hid (∀ w, Calls Tryz.prog 26 #[.string a0] w fun e w' => e = .returned (.bool true) ∧ Below w.heap.size w w') := fun w => transforms_walk a0 w0 w
  have HRE : Hid (∀ w, Calls Tryz.prog 27 #[.string a0, .int .i64 a5] w fun e w' => e = .returned (.bool true) ∧ Below w.heap.size w w') := fun w => restores_walk a0 a5 w0 w5 w
  have HIM : Hid (∀ w, Calls Tryz.prog 28 #[.string a0, .int .i64 a1] w fun e w' => e = .returned (.bool true) ∧ Below w.heap.size w w') := fun w => images_walk a0 a1 w0 w1 w
  have HEV : Hid (∀ im w, Calls Tryz.prog 29 #[.string im, .agg #[.int .i64 a30, .int .i64 a31, .int .i64 a32], .int .i64 a4, .int .i64 a5, .string a6, .int .i64 a7] w fun e w' => e = .returned (.bool true) ∧ Below w.heap.size w w') := fun im w => every_any im a30 a31 a32 a4 a5 a6 a7 w w6
  have HMA : Hid (∀ w, Calls Tryz.prog 9 #[.string a0, .int .i64 a1] w (MadeRes w)) := fun w => made_any a0 a1 w w0 w1
  have hb0 : Below w.heap.size w (w.alloc (.cells #[.int .i64 a30, .int .i64 a31, .int .i64 a32] 47)) := (Below.refl _ _).alloc (Nat.le_refl _) _
  have k0 := Blk.new w 47 #[.int .i64 a30, .int .i64 a31, .int .i64 a32]
  go_enter Tryz.func8, Tryz.ntmps8
  go_wp2_with fail
  generalize w.alloc (.cells #[.int .i64 a30, .int .i64 a31, .int .i64 a32] 47) = W0 at *
  obtain ⟨G, hG⟩ : ∃ G, G = w.heap.size := ⟨_, rfl⟩
  have HG : Hid (G = w.heap.size) := hG
  rw [← hG] at k0 hb0 ⊢
  clear hG
  go_loopw [17, 18, 19, 20, 21, 22, 23] (fun iv _ _ _ _ _ _ wr => ∃ i : Nat, i ≤ 2 ∧ iv = .int .i64 (i : Int) ∧ Blk wr G 47 #[.int .i64 a30, .int .i64 a31, .int .i64 a32] ∧ Below G w wr) (fun iv _ _ _ _ _ _ _ => 2 - (intOf iv).toNat)
  case atStart => exact ⟨0, by omega, rfl, k0, hb0⟩
  case round =>
    clear k0 hb0
    obtain ⟨i, hi, rfl, k0, hb0⟩ := hrel
    have hsz0 : G ≤ wr.heap.size := Nat.le_of_lt k0.lt
    by_cases hlt : i < 2
    · go_wp2_with fail
      refine Calls.mono (HSO.out wr) ?_
      rintro en w2 ⟨rfl, c1⟩
      have k1 := k0.below c1 k0.lt
      have hb1 := hb0.trans (c1.mono hsz0)
      clear k0 hb0 c1
      go_wp2_with fail
      refine Calls.mono (HTR.out w2) ?_
      rintro en w3 ⟨rfl, c2⟩
      have k2 := k1.below c2 k1.lt
      have hb2 := hb1.trans (c2.mono (Nat.le_of_lt k1.lt))
      clear k1 hb1 c2
      go_wp2_with fail
      refine Calls.mono (HRE.out w3) ?_
      rintro en w4 ⟨rfl, c3⟩
      have k3 := k2.below c3 k2.lt
      have hb3 := hb2.trans (c3.mono (Nat.le_of_lt k2.lt))
      clear k2 hb2 c3
      go_wp2_with fail
      refine Calls.mono (HIM.out w4) ?_
      rintro en w5 ⟨rfl, c4⟩
      have k4 := k3.below c4 k3.lt
      have hb4 := hb3.trans (c4.mono (Nat.le_of_lt k3.lt))
      clear k3 hb3 c4
      have p0 : w5.cell? ⟨G, 0, none⟩ = some (.int .i64 a30) := k4.cell 0
      have p1 : w5.cell? ⟨G, 1, none⟩ = some (.int .i64 a31) := k4.cell 1
      have p2 : w5.cell? ⟨G, 2, none⟩ = some (.int .i64 a32) := k4.cell 2
      go_wp2_with fail
      refine Calls.mono (HEV.out a2 w5) ?_
      rintro en w6 ⟨rfl, c5⟩
      have k5 := k4.below c5 k4.lt
      have hb5 := hb4.trans (c5.mono (Nat.le_of_lt k4.lt))
      clear k4 hb4 c5 p0 p1 p2
      go_wp2_with fail
      refine Calls.mono (HMA.out w6) ?_
      rintro en w7 ⟨im, s, rate, _, _, rfl, c6⟩
      have k6 := k5.below c6 k5.lt
      have hb6 := hb5.trans (c6.mono (Nat.le_of_lt k5.lt))
      clear k5 hb5 c6
      have p0 : w7.cell? ⟨G, 0, none⟩ = some (.int .i64 a30) := k6.cell 0
      have p1 : w7.cell? ⟨G, 1, none⟩ = some (.int .i64 a31) := k6.cell 1
      have p2 : w7.cell? ⟨G, 2, none⟩ = some (.int .i64 a32) := k6.cell 2
      go_wp2_with fail
      refine Calls.mono (HEV.out im w7) ?_
      rintro en w8 ⟨rfl, c7⟩
      have k7 := k6.below c7 k6.lt
      have hb7 := hb6.trans (c7.mono (Nat.le_of_lt k6.lt))
      clear k6 hb6 c7 p0 p1 p2
      go_wp2
      go_roundw
      case rel => exact ⟨i + 1, by omega, by go_num, k7, hb7⟩
      case measure => simp [intOf]; omega
    · go_wp2
      go_ret
      exact ⟨rfl, by rw [← HG.out]; exact hb0⟩
end Go.Proofs.YtkebgnpifmcmaabGreat
