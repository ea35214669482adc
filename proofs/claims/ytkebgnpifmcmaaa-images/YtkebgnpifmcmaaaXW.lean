import Derived.Test.YtkebgnpifmcmaaaXV
namespace Go.Proofs.Ytkebgnpifmcmaaa
open Go.RowKit

/-- What the measures say. -/
def mSize (b : ByteArray) : Nat := (rNum (b, false)).1
def mRate (b : ByteArray) : Nat := (rByte (rNum (b, false)).2).1
def mOk (b : ByteArray) : Prop := (rByte (rNum (b, false)).2).2.2 = false ∧ mSize b ≤ 2000 ∧ 1 ≤ mRate b ∧ mRate b ≤ 64

set_option maxRecDepth 10000 in
set_option maxHeartbeats 1000000 in
theorem readMeasures_any (b : ByteArray) (w : World) :
    Calls Try.prog 64 #[.string b] w fun e w' => ((mOk b ∧ e = .returned (.tuple #[.int .i64 (mSize b : Int), .int .i64 (mRate b : Int), .bool true])) ∨ (¬ mOk b ∧ e = .returned (.tuple #[.int .i64 (mSize b : Int), .int .i64 (mRate b : Int), .bool false]))) ∧ Below w.heap.size w w' := by
  have k0 := Blk.new w 124 #[.string b, .bool false]
  have hb0 : Below w.heap.size w (w.alloc (.cells #[.string b, .bool false] 124)) := (Below.refl _ _).alloc (Nat.le_refl _) _
  have hl1 := rNum_lt (b, false)
  have hl2 := rByte_lt (rNum (b, false)).2
  have HMO : Hid (mOk b ↔ ((rByte (rNum (b, false)).2).2.2 = false ∧ (rNum (b, false)).1 ≤ 2000 ∧ 1 ≤ (rByte (rNum (b, false)).2).1 ∧ (rByte (rNum (b, false)).2).1 ≤ 64)) := Iff.rfl
  have HE : Hid (mSize b = (rNum (b, false)).1 ∧ mRate b = (rByte (rNum (b, false)).2).1) := ⟨rfl, rfl⟩
  go_enter Try.func64, Try.ntmps64
  go_wp2_with fail
  generalize w.alloc (.cells #[.string b, .bool false] 124) = W0 at *
  refine (number_any w.heap.size (b, false) W0 k0).mono ?_
  rintro en w1 ⟨rfl, hR1, hO1⟩
  have hb1 := hO1.below hb0 (Nat.le_refl _)
  have HBC : Hid _ := byte_any w.heap.size (rNum (b, false)).2 w1 hR1
  clear k0 hb0 hO1 hR1
  go_wp2_with fail
  refine Calls.mono HBC.out ?_
  clear HBC
  rintro en w2 ⟨rfl, hR2, hO2⟩
  have hb2 := hO2.below hb1 (Nat.le_refl _)
  have hc1 : w2.cell? ⟨w.heap.size, 1, none⟩ = some (.bool (rByte (rNum (b, false)).2).2.2) := Blk.cell hR2 1
  clear hR2 hO2 hb1
  generalize (rByte (rNum (b, false)).2).2.2 = SH at *
  generalize (rByte (rNum (b, false)).2).1 = RT at *
  generalize (rNum (b, false)).1 = SZ at *
  cases SH with
  | true =>
    have HN : Hid (¬ mOk b) := fun h => by have := (HMO.out.1 h).1; cases this
    clear HMO
    go_wp2_with fail
    go_ret3
    exact ⟨.inr ⟨HN.out, by rw [HE.out.1, HE.out.2]; first | rfl | (simp; omega)⟩, hb2⟩
  | false =>
    by_cases h1 : SZ ≤ 2000
    · by_cases h2 : 1 ≤ RT
      · by_cases h3 : RT ≤ 64
        · have HN : Hid (mOk b) := HMO.out.2 ⟨rfl, h1, h2, h3⟩
          clear HMO
          go_wp2_with fail
          go_ret3
          exact ⟨.inl ⟨HN.out, by rw [HE.out.1, HE.out.2]; first | rfl | (simp; omega)⟩, hb2⟩
        · have HN : Hid (¬ mOk b) := fun h => h3 (HMO.out.1 h).2.2.2
          clear HMO
          go_wp2_with fail
          go_ret3
          exact ⟨.inr ⟨HN.out, by rw [HE.out.1, HE.out.2]; first | rfl | (simp; omega)⟩, hb2⟩
      · have HN : Hid (¬ mOk b) := fun h => h2 (HMO.out.1 h).2.2.1
        clear HMO
        go_wp2_with fail
        go_ret3
        exact ⟨.inr ⟨HN.out, by rw [HE.out.1, HE.out.2]; first | rfl | (simp; omega)⟩, hb2⟩
    · have HN : Hid (¬ mOk b) := fun h => h1 (HMO.out.1 h).2.1
      clear HMO
      go_wp2_with fail
      go_ret3
      exact ⟨.inr ⟨HN.out, by rw [HE.out.1, HE.out.2]; first | rfl | (simp; omega)⟩, hb2⟩
end Go.Proofs.Ytkebgnpifmcmaaa
