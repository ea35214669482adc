import Derived.Test.YtkebgnpifmcmaaaWK
namespace Go.Proofs.Ytkebgnpifmcmaaa
open Go.RowKit

/-- The bytes of 'aba'. -/
def aba : List UInt8 := [97, 98, 97]
def abaSA : Nat → Nat
  | 0 => 3
  | 1 => 2
  | 2 => 0
  | _ => 1
theorem aba_sa : IsSA aba abaSA := by
  refine ⟨fun i hi => ?_, fun i j hij hj => ?_⟩
  · have : aba.length = 3 := rfl
    have h : i = 0 ∨ i = 1 ∨ i = 2 ∨ i = 3 := by omega
    rcases h with rfl | rfl | rfl | rfl <;> decide
  · have : aba.length = 3 := rfl
    have h : (i = 0 ∧ j = 1) ∨ (i = 0 ∧ j = 2) ∨ (i = 0 ∧ j = 3) ∨ (i = 1 ∧ j = 2) ∨ (i = 1 ∧ j = 3) ∨ (i = 2 ∧ j = 3) := by omega
    rcases h with ⟨rfl, rfl⟩ | ⟨rfl, rfl⟩ | ⟨rfl, rfl⟩ | ⟨rfl, rfl⟩ | ⟨rfl, rfl⟩ | ⟨rfl, rfl⟩ <;> decide
theorem aba_pre : pre aba abaSA 4 = aba ∧ endOf abaSA 4 = 2 := by decide
theorem aba_ok : okBack aba 2 := by
  intro j hj
  have : aba.length = 3 := rfl
  have h : j = 0 ∨ j = 1 ∨ j = 2 := by omega
  rcases h with rfl | rfl | rfl <;> decide
theorem aba_back : backText aba 2 = aba := by decide

set_option maxRecDepth 10000 in
set_option maxHeartbeats 400000 in
theorem short_any (s : ByteArray) (n : Int) (w : World) (h0 : 0 ≤ n) (hn : n ≤ 3000) (_hs : s.size ≤ maxLen) :
    Calls Try.prog 21 #[.string s, .int .i64 n] w fun e w' => ∃ s', e = .returned (.string s') ∧ (s'.size : Int) ≤ n ∧ w = w' := by
  unfold maxLen at _hs
  obtain ⟨m, rfl⟩ := Int.eq_ofNat_of_zero_le h0
  by_cases h : (m : Int) < (s.size : Int)
  · have hm : m ≤ s.size := by omega
    go_enter Try.func21, Try.ntmps21
    go_wp2
    go_ret
    exact ⟨_, rfl, by simp; omega, rfl⟩
  · go_enter Try.func21, Try.ntmps21
    go_wp2
    go_ret
    exact ⟨_, rfl, by omega, rfl⟩

end Go.Proofs.Ytkebgnpifmcmaaa
