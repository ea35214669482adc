import Derived.Test.YtkebgnpifmcmaaaMem
namespace Go.Proofs.Ytkebgnpifmcmaaa
open Go.RowKit

theorem below_made {w w1 : World} (h : w.grownBy w1 none) : Below w.heap.size w w1 := (Below.refl _ _).grown h (Nat.le_refl _) (fun _ h => by cases h)

set_option maxRecDepth 10000 in
set_option maxHeartbeats 400000 in
theorem allPlaces_any (n : Nat) (w : World) (hn : n ≤ 3000) :
    Calls Try.prog 53 #[.int .i64 (n : Int)] w fun e w' => NewN w w' e n (fun j => j) := by
  obtain ⟨i0, hi, hz0, hz1, hz2⟩ := info_parts Try.info3
  go_enter Try.func53, Try.ntmps53
  go_wp2_with (at_make; refine wpList_make_full _ rfl _ _ 22 rfl w.heap.size 3 i0 (.int .i64 0) 1 Try.underlying22 hi hz0 hz1 .i64 .i64 _ _ n rfl rfl (by omega) (by omega) (by rw [hz2]; omega) (by unfold maxLen; omega) (by omega) ?_; intro w1 hown hgr)
  have hrow := Row.made hown
  have hbel := below_made hgr
  have hsz := hgr.size
  clear hown hgr
  go_loopw [9, 4] (fun i _ wr => ∃ k : Nat, k ≤ n ∧ i = .int .i64 k ∧ (∃ f, Row wr w.heap.size 3 n (IN f) ∧ ∀ j, j < k → f j = j) ∧ Below w.heap.size w wr) (fun i _ _ => n - (intOf i).toNat)
  case atStart => exact ⟨0, Nat.zero_le _, rfl, ⟨fun _ => 0, hrow, fun j hj => by omega⟩, hbel⟩
  case round =>
    obtain ⟨k, hk, rfl, ⟨f, hr, hf⟩, hb⟩ := hrel
    by_cases hlt : k < n
    · have hc := hr.cell hlt
      have hfz := hr.free k
      go_wp2
      go_roundw
      case rel => exact ⟨k + 1, by omega, by go_num, ⟨_, hr.setN k k, upd_next hf rfl⟩, hb.setCell (Nat.le_refl _) _⟩
      case measure => simp [intOf]; omega
    · go_wp2
      go_ret
      exact ⟨_, _, rfl, by omega, by unfold maxLen; omega, Nat.le_refl _, hr.congr (fun j hj => by simp only [IN, hf j (show j < k by omega)]), hb⟩


theorem wrap64_byte (b : UInt8) : wrap64 (b.toNat : Int) = (b.toNat : Int) := by
  have := b.toNat_lt
  exact IntWalk.wrap64_in _ ⟨by omega, by omega⟩

/-- The ring of a text: its bytes, each one more, and the END, 0. -/
def ringAt (s : ByteArray) (i : Nat) : Nat := if h : i < s.size then (s[i]).toNat + 1 else 0
theorem ringAt_lt (s : ByteArray) (i : Nat) (h : i < s.size) : ringAt s i = (s[i]).toNat + 1 := by simp [ringAt, h]
theorem ringAt_end (s : ByteArray) (i : Nat) (h : ¬ i < s.size) : ringAt s i = 0 := by simp [ringAt, h]

set_option maxRecDepth 10000 in
set_option maxHeartbeats 400000 in
theorem classesOfBytes_any (s : ByteArray) (w : World) (hn : s.size ≤ 2000) :
    Calls Try.prog 51 #[.string s] w fun e w' => NewN w w' e (s.size + 1) (ringAt s) := by
  obtain ⟨i0, hi, hz0, hz1, hz2⟩ := info_parts Try.info3
  go_enter Try.func51, Try.ntmps51
  go_wp2_with (at_make; refine wpList_make_full _ rfl _ _ 22 rfl w.heap.size 3 i0 (.int .i64 0) 1 Try.underlying22 hi hz0 hz1 .i64 .i64 _ _ (s.size + 1) rfl rfl (by omega) (by omega) (by rw [hz2]; omega) (by unfold maxLen; omega) (by omega) ?_; intro w1 hown hgr)
  have hrow := Row.made hown
  have hbel := below_made hgr
  have hsz := hgr.size
  clear hown hgr
  go_loopw [11, 4] (fun i _ wr => ∃ k : Nat, k ≤ s.size ∧ i = .int .i64 k ∧ (∃ f, Row wr w.heap.size 3 (s.size + 1) (IN f) ∧ (∀ j, j < k → f j = ringAt s j) ∧ ∀ j, k ≤ j → f j = 0) ∧ Below w.heap.size w wr) (fun i _ _ => s.size - (intOf i).toNat)
  case atStart => exact ⟨0, Nat.zero_le _, rfl, ⟨fun _ => 0, hrow, fun j hj => by omega, fun j hj => rfl⟩, hbel⟩
  case round =>
    obtain ⟨k, hk, rfl, ⟨f, hr, hf, hf0⟩, hb⟩ := hrel
    by_cases hlt : k < s.size
    · have hc := hr.cell (show k < s.size + 1 by omega)
      have hfz := hr.free k
      have hby := (s[k]).toNat_lt
      have hw := wrap64_byte s[k]
      go_wp2
      go_roundw
      case rel => exact ⟨k + 1, by omega, by go_num, ⟨_, hr.setN k ((s[k]).toNat + 1), upd_next hf (ringAt_lt s k hlt).symm, fun j hj => by rw [upd_ne _ _ _ (by omega)]; exact hf0 j (by omega)⟩, hb.setCell (Nat.le_refl _) _⟩
      case measure => simp [intOf]; omega
    · go_wp2
      go_ret
      refine ⟨_, _, rfl, by omega, by unfold maxLen; omega, Nat.le_refl _, hr.congr (fun j hj => ?_), hb⟩
      have e : f j = ringAt s j := by
        by_cases h : j < k
        · exact hf j h
        · rw [hf0 j (by omega), ringAt_end s j (by omega)]
      simp only [IN, e]

/-- The place a byte of the ring's 'width' ahead of a place. -/
def backBy (n width p : Nat) : Nat := (p + n - width) % n
theorem back_int (n width p : Nat) (h : width ≤ n) : ((p : Int) - (width : Int)) % (n : Int) = ((backBy n width p : Nat) : Int) := by
  have e : ((p + n - width : Nat) : Int) = ((p : Int) - (width : Int)) + (n : Int) := by omega
  unfold backBy
  rw [Int.natCast_emod, e, Int.add_emod_right]

set_option maxRecDepth 10000 in
set_option maxHeartbeats 400000 in
theorem stepBack_any (g n cap width : Nat) (o : Nat → Nat) (w : World) (hn : n ≤ 3000) (hn0 : 0 < n) (hr0 : Row w g 3 n (IN o)) (ho : ∀ j, j < n → o j < n) (hw : width ≤ n) :
    Calls Try.prog 55 #[.slice (some ⟨g, 0, none⟩) n cap, .int .i64 (width : Int)] w fun e w' => NewN w w' e n (fun j => backBy n width (o j)) := by
  obtain ⟨i0, hi, hz0, hz1, hz2⟩ := info_parts Try.info3
  have hglt := hr0.lt
  go_enter Try.func55, Try.ntmps55
  go_wp2_with (at_make; refine wpList_make_full _ rfl _ _ 22 rfl w.heap.size 3 i0 (.int .i64 0) 1 Try.underlying22 hi hz0 hz1 .i64 .i64 _ _ n rfl rfl (by omega) (by omega) (by rw [hz2]; omega) (by unfold maxLen; omega) (by omega) ?_; intro w1 hown hgr)
  have hrow := Row.made hown
  have hbel := below_made hgr
  have hsz := hgr.size
  clear hown hgr
  go_loopw [13, 6, 7] (fun i _ _ wr => ∃ k : Nat, k ≤ n ∧ i = .int .i64 k ∧ (∃ f, Row wr w.heap.size 3 n (IN f) ∧ ∀ j, j < k → f j = backBy n width (o j)) ∧ Below w.heap.size w wr) (fun i _ _ _ => n - (intOf i).toNat)
  case atStart => exact ⟨0, Nat.zero_le _, rfl, ⟨fun _ => 0, hrow, fun j hj => by omega⟩, hbel⟩
  case round =>
    obtain ⟨k, hk, rfl, ⟨f, hr, hf⟩, hb⟩ := hrel
    by_cases hlt : k < n
    · have hc := hr.cell hlt
      have hfz := hr.free k
      have hco := (hr0.below hb hglt).cell hlt
      rw [IN_at] at hco
      have hok := ho k hlt
      have hne : ((n : Int) == 0) = false := by simp; omega
      go_wp2
      go_roundw
      case rel =>
        rw [back_int n width (o k) hw]
        exact ⟨k + 1, by omega, by go_num, ⟨_, hr.setN k (backBy n width (o k)), upd_next hf rfl⟩, hb.setCell (Nat.le_refl _) _⟩
      case measure => simp [intOf]; omega
    · go_wp2
      go_ret
      exact ⟨_, _, rfl, by omega, by unfold maxLen; omega, Nat.le_refl _, hr.congr (fun j hj => by simp only [IN, hf j (show j < k by omega)]), hb⟩

/-- The test of the two halves. -/
def halvesB (n : Nat) (c : Nat → Nat) (a b width : Nat) : Bool := c a == c b && c ((a + width) % n) == c ((b + width) % n)

theorem mod_int (a width n : Nat) : ((a : Int) + (width : Int)) % (n : Int) = (((a + width) % n : Nat) : Int) := by
  rw [Int.natCast_emod]; simp

set_option maxRecDepth 10000 in
set_option maxHeartbeats 400000 in
theorem sameHalves_any (g n cap a b width : Nat) (c : Nat → Nat) (w : World) (hn : n ≤ 3000) (hr : Row w g 3 n (IN c)) (ha : a < n) (hb : b < n) (hw : width ≤ 6000) :
    Calls Try.prog 76 #[.slice (some ⟨g, 0, none⟩) n cap, .int .i64 (a : Int), .int .i64 (b : Int), .int .i64 (width : Int)] w fun e w' => e = .returned (.bool (halvesB n c a b width)) ∧ ∃ m, w' = w.drewN m := by
  have hca := hr.cell ha
  have hcb := hr.cell hb
  have l1 : (a + width) % n < n := Nat.mod_lt _ (by omega)
  have l2 : (b + width) % n < n := Nat.mod_lt _ (by omega)
  have hca2 := hr.cell l1
  have hcb2 := hr.cell l2
  rw [IN_at] at hca hcb hca2 hcb2
  have hne : ((n : Int) == 0) = false := by simp; omega
  have m1 : 0 ≤ ((a : Int) + (width : Int)) % (n : Int) := Int.emod_nonneg _ (by omega)
  have m2 : 0 ≤ ((b : Int) + (width : Int)) % (n : Int) := Int.emod_nonneg _ (by omega)
  have m3 : ((a : Int) + (width : Int)) % (n : Int) < (n : Int) := Int.emod_lt_of_pos _ (by omega)
  have m4 : ((b : Int) + (width : Int)) % (n : Int) < (n : Int) := Int.emod_lt_of_pos _ (by omega)
  by_cases h1 : c a = c b
  · have g1 : ((c a : Int) == (c b : Int)) = true := by simp [h1]
    have fin : halvesB n c a b width = (((c ((a + width) % n) : Int)) == ((c ((b + width) % n) : Int))) := by
      unfold halvesB; rw [Bool.eq_iff_iff]; simp [h1]; omega
    have FIN : Hid (halvesB n c a b width = (((c ((a + width) % n) : Int)) == ((c ((b + width) % n) : Int)))) := fin
    clear fin h1
    go_enter Try.func76, Try.ntmps76
    go_wp2
    go_quiet (fail)
    go_wp2
    go_ret
    exact ⟨by rw [FIN.out]; rfl, _, rfl⟩
  · have g1 : ((c a : Int) == (c b : Int)) = false := by simp; omega
    have fin : halvesB n c a b width = false := by unfold halvesB; simp [h1]
    have FIN : Hid (halvesB n c a b width = false) := fin
    clear fin h1
    go_enter Try.func76, Try.ntmps76
    go_wp2
    go_quiet (fail)
    go_wp2
    go_ret
    exact ⟨by rw [FIN.out]; rfl, _, rfl⟩

end Go.Proofs.Ytkebgnpifmcmaaa
