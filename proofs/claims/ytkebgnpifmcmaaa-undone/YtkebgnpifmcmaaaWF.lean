import Derived.Test.YtkebgnpifmcmaaaWD
import Derived.Test.YtkebgnpifmcmaaaWE
namespace Go.Proofs.Ytkebgnpifmcmaaa
open Go.RowKit

/-- A list of numbers: nil or not; its n cells. -/
def Lst (w : World) (v : Value) (n : Nat) (F : Nat → Value) : Prop := ∃ ao cap, v = .slice ao n cap ∧ (0 < n → ∃ g, ao = some ⟨g, 0, none⟩ ∧ Row w g 3 n F)
theorem Lst.below {w w' : World} {v : Value} {n : Nat} {F : Nat → Value} (h : Lst w v n F) (hb : Below w.heap.size w w') : Lst w' v n F := by
  obtain ⟨ao, cap, rfl, h⟩ := h
  exact ⟨ao, cap, rfl, fun hn => by obtain ⟨g, rfl, hr⟩ := h hn; exact ⟨g, rfl, hr.below hb hr.lt⟩⟩

set_option maxRecDepth 10000 in
set_option maxHeartbeats 400000 in
theorem same_true (va vb : Value) (n : Nat) (F : Nat → Int) (w : World) (hn : n ≤ 3000) (ha : Lst w va n (II F)) (hb : Lst w vb n (II F)) :
    Calls Try.prog 14 #[va, vb] w fun e w' => e = .returned (.bool true) ∧ ∃ m, w' = w.drewN m := by
  obtain ⟨ao, capa, rfl, ha⟩ := ha
  obtain ⟨bo, capb, rfl, hb⟩ := hb
  have hnn : ((n : Int) != (n : Int)) = false := by simp
  go_enter Try.func14, Try.ntmps14
  go_wp2
  go_loopw [5] (fun i wr => ∃ k : Nat, k ≤ n ∧ i = .int .i64 (k : Int) ∧ ∃ m, wr = w.drewN m) (fun i _ => n - (intOf i).toNat)
  case atStart => exact ⟨0, Nat.zero_le _, rfl, 0, rfl⟩
  case round =>
    obtain ⟨k, hk, rfl, m, rfl⟩ := hrel
    by_cases hlt : k < n
    · obtain ⟨ga, rfl, hra⟩ := ha (by omega)
      obtain ⟨gb, rfl, hrb⟩ := hb (by omega)
      have hca := hra.cell hlt
      have hcb := hrb.cell hlt
      rw [II_at] at hca hcb
      have hff : (F k != F k) = false := by simp
      go_wp2
      go_quiet (fail)
      go_wp2
      go_roundw
      case rel => exact ⟨k + 1, by omega, by go_num, _, rfl⟩
      case measure => simp [intOf]; omega
    · go_wp2
      go_ret
      exact ⟨rfl, _, rfl⟩

set_option maxRecDepth 10000 in
set_option maxHeartbeats 400000 in
theorem num_any (x : Int) (w : World) : Calls Try.prog 15 #[.int .i64 x] w fun e w' => e = .returned (.int .i64 x) ∧ w' = w := by
  go_enter Try.func15, Try.ntmps15
  go_wp2
  go_ret
  exact ⟨rfl, rfl⟩

theorem NewN.lst {w w' : World} {e : Ending} {n : Nat} {f : Nat → Nat} (h : NewN w w' e n f) : ∃ v, e = .returned v ∧ Lst w' v n (IN f) ∧ Below w.heap.size w w' := by
  obtain ⟨g, cap, rfl, _, _, _, hr, hb⟩ := h
  exact ⟨_, rfl, ⟨_, _, rfl, fun _ => ⟨g, rfl, hr⟩⟩, hb⟩

set_option maxRecDepth 10000 in
set_option maxHeartbeats 400000 in
theorem suffixes_ok (s : ByteArray) (w : World) (hn : s.size ≤ 2000) :
    Calls Try.prog 12 #[.string s] w fun e w' => ∃ g cap f, e = .returned (.tuple #[.slice (some ⟨g, 0, none⟩) (s.size + 1) cap, .int .i64 0]) ∧ w.heap.size ≤ g ∧ s.size + 1 ≤ cap ∧ cap ≤ maxLen ∧ Row w' g 3 (s.size + 1) (IN f) ∧ Below w.heap.size w w' ∧ IsSA (tx s) f := by
  go_enter Try.func12, Try.ntmps12
  go_wp2_with (go_at_call 36; refine (sort_any s _ hn).mono ?_; rintro e w1 ⟨f, ⟨g, cap, rfl, hc1, hc2, hg, hr, hb⟩, hsa⟩)
  go_ret2
  exact ⟨g, cap, f, rfl, hg, hc1, hc2, hr, hb, hsa⟩
set_option maxRecDepth 10000 in
set_option maxHeartbeats 400000 in
theorem suffixes_long (s : ByteArray) (w : World) (hm : s.size ≤ maxLen) (hn : 2000 < s.size) :
    Calls Try.prog 12 #[.string s] w fun e w' => e = .returned (.tuple #[.slice none 0 0, .int .i64 1]) ∧ w' = w := by
  unfold maxLen at hm
  go_enter Try.func12, Try.ntmps12
  go_wp2_with fail
  go_ret2
  exact ⟨rfl, rfl⟩
set_option maxRecDepth 10000 in
set_option maxHeartbeats 400000 in
theorem refSuffixes_ok (s : ByteArray) (w : World) (hn : s.size ≤ 2000) :
    Calls Try.prog 13 #[.string s] w fun e w' => ∃ g cap f, e = .returned (.tuple #[.slice (some ⟨g, 0, none⟩) (s.size + 1) cap, .int .i64 0]) ∧ w.heap.size ≤ g ∧ s.size + 1 ≤ cap ∧ cap ≤ maxLen ∧ Row w' g 3 (s.size + 1) (IN f) ∧ Below w.heap.size w w' ∧ IsSA (tx s) f := by
  go_enter Try.func13, Try.ntmps13
  go_wp2_with (go_at_call 37; refine (rows_any s _ hn).mono ?_; rintro e w1 ⟨f, ⟨g, cap, rfl, hc1, hc2, hg, hr, hb⟩, hsa⟩)
  go_ret2
  exact ⟨g, cap, f, rfl, hg, hc1, hc2, hr, hb, hsa⟩
set_option maxRecDepth 10000 in
set_option maxHeartbeats 400000 in
theorem refSuffixes_long (s : ByteArray) (w : World) (hm : s.size ≤ maxLen) (hn : 2000 < s.size) :
    Calls Try.prog 13 #[.string s] w fun e w' => e = .returned (.tuple #[.slice none 0 0, .int .i64 1]) ∧ w' = w := by
  unfold maxLen at hm
  go_enter Try.func13, Try.ntmps13
  go_wp2_with fail
  go_ret2
  exact ⟨rfl, rfl⟩

end Go.Proofs.Ytkebgnpifmcmaaa
