import Derived.Test.YtkebgnpifmcmaaaWG
namespace Go.Proofs.Ytkebgnpifmcmaaa
open Go.RowKit

def aheadV (t : List UInt8) (f : Nat → Nat) (j : Nat) : Int := if f j = 0 then -1 else ((t.getD (f j - 1) 0).toNat : Int)
theorem aheadV_zero {t : List UInt8} {f : Nat → Nat} {j : Nat} (h : f j = 0) : aheadV t f j = -1 := by simp [aheadV, h]
theorem aheadV_pos {t : List UInt8} {f : Nat → Nat} {j : Nat} (h : f j ≠ 0) : aheadV t f j = ((t.getD (f j - 1) 0).toNat : Int) := by simp [aheadV, h]

theorem upd_upd {α : Type} (f : Nat → α) (j : Nat) (x y : α) : upd (upd f j x) j y = upd f j y := by
  funext i; unfold upd; split <;> rfl

set_option maxRecDepth 10000 in
set_option maxHeartbeats 1000000 in
theorem ahead_any (s : ByteArray) (w : World) (hn : s.size ≤ 2000) :
    Calls Try.prog 39 #[.string s] w fun e w' => ∃ f g cap, IsSA (tx s) f ∧ e = .returned (.slice (some ⟨g, 0, none⟩) (s.size + 1) cap) ∧ w.heap.size ≤ g ∧ Row w' g 3 (s.size + 1) (II (aheadV (tx s) f)) ∧ Below w.heap.size w w' := by
  obtain ⟨i0, hi, hz0, hz1, hz2⟩ := info_parts Try.info3
  go_enter Try.func39, Try.ntmps39
  go_wp2_with fail
  refine (rows_any s _ hn).mono ?_
  rintro e w1 ⟨f, ⟨g, cap, rfl, _, _, hg, hr, hb1⟩, hsa⟩
  have hsz1 := hb1.size
  go_wp2_with (at_make; refine wpList_make_full _ rfl _ _ 22 rfl w1.heap.size 3 i0 (.int .i64 0) 1 Try.underlying22 hi hz0 hz1 .i64 .i64 _ _ (s.size + 1) rfl rfl (by omega) (by omega) (by rw [hz2]; omega) (by unfold maxLen; omega) (by omega) ?_; intro w2 hown hgr)
  have hrow := Row.made hown
  have hb2 := hb1.grown hgr hsz1 (fun _ h => by cases h)
  have hr2 := hr.grown hgr (by simp)
  have hglt := hr.lt
  have HSA : Hid (IsSA (tx s) f) := hsa
  obtain ⟨G, hG⟩ : ∃ G, G = w1.heap.size := ⟨_, rfl⟩
  rw [← hG] at hrow hglt hsz1 ⊢
  clear hown hgr hr hb1 hG hsa
  go_loopw [5] (fun i wr => ∃ k : Nat, k ≤ s.size + 1 ∧ i = .int .i64 (k : Int) ∧ (∃ a, Row wr G 3 (s.size + 1) (II a) ∧ Hid (∀ j, j < k → a j = aheadV (tx s) f j)) ∧ Row wr g 3 (s.size + 1) (IN f) ∧ Below w.heap.size w wr) (fun i _ => s.size + 1 - (intOf i).toNat)
  case atStart => exact ⟨0, Nat.zero_le _, rfl, ⟨fun _ => 0, hrow, fun j hj => by omega⟩, hr2, hb2⟩
  case round =>
    clear hrow hr2 hb2
    obtain ⟨k, hk, rfl, ⟨a, ha, HA⟩, hr, hb⟩ := hrel
    by_cases hlt : k < s.size + 1
    · have hca := ha.cell hlt
      have hfz := ha.free k
      have hcf := hr.cell hlt
      rw [IN_at] at hcf
      rw [II_at] at hca
      have hfk := HSA.out.le k (by rw [tx_length]; omega)
      rw [tx_length] at hfk
      by_cases h0 : f k = 0
      · have HN : Hid (aheadV (tx s) f k = -1) := aheadV_zero h0
        have hle : ¬ (0 : Int) < (f k : Int) := by omega
        clear h0
        go_wp2
        go_roundw
        case rel => exact ⟨k + 1, by omega, by go_num, ⟨_, ha.setI k (-1), upd_next HA.out HN.out.symm⟩, hr.setOther (by simp; omega) _, hb.setCell (by simp; omega) _⟩
        case measure => simp [intOf]; omega
      · have hpos : 0 < f k := by omega
        have hidx : f k - 1 < s.size := by omega
        have HN : Hid (aheadV (tx s) f k = ((s[f k - 1]).toNat : Int)) := by show aheadV (tx s) f k = _; rw [aheadV_pos h0, tx_getD s _ hidx]
        have hw := wrap64_byte s[f k - 1]
        have hby := (s[f k - 1]).toNat_lt
        clear h0
        go_wp2
        go_roundw
        case rel => exact ⟨k + 1, by omega, by go_num, ⟨_, (ha.setI k (-1)).setI k _, by rw [upd_upd]; exact upd_next HA.out HN.out.symm⟩, (hr.setOther (by simp; omega) _).setOther (by simp; omega) _, (hb.setCell (by simp; omega) _).setCell (by simp; omega) _⟩
        case measure => simp [intOf]; omega
    · go_wp2
      go_ret
      exact ⟨f, G, _, HSA.out, rfl, by omega, ha.congr (fun j hj => by simp only [II, HA.out j (show j < k by omega)]), hb⟩

set_option maxRecDepth 10000 in
set_option maxHeartbeats 1000000 in
theorem refTransform_ok (s : ByteArray) (w : World) (hn : s.size ≤ 2000) :
    Calls Try.prog 17 #[.string s] w fun e w' => ∃ f, IsSA (tx s) f ∧ e = .returned (.tuple #[.string (bs (pre (tx s) f (s.size + 1))), .int .i64 ((endOf f (s.size + 1) : Nat) : Int), .int .i64 0]) ∧ Below w.heap.size w w' := by
  obtain ⟨i0, hi, hz0, hz1, hz2⟩ := info_parts Try.info5
  go_enter Try.func17, Try.ntmps17
  go_wp2_with fail
  refine (ahead_any s _ hn).mono ?_
  rintro e w1 ⟨f, g, cap, hsa, rfl, hg, hr, hb1⟩
  have hsz1 := hb1.size
  go_wp2_with (at_make; refine wpList_make_own _ rfl _ _ 60 rfl w1.heap.size 5 i0 (.int .u8 0) 1 Try.underlying60 hi hz0 hz1 .i64 .i64 _ s.size rfl rfl (by omega) (by rw [hz2]; omega) (by unfold maxLen; omega) (by omega) ?_; intro w2 hown hgr)
  have hb2 := hb1.grown hgr hsz1 (fun _ h => by cases h)
  have hr2 := hr.grown hgr (by simp)
  have hsz2 := hb2.size
  have hown2 : w2.ownsRow w.heap.size 5 1 (.slice (some ⟨w1.heap.size, 0, none⟩) 0 s.size) 0 [] := by
    rcases hown.2 with h | ⟨g', cap', cur, h1, h2, h3⟩
    · exact ⟨hown.1, .inl h⟩
    · exact ⟨hown.1, .inr ⟨g', cap', cur, h1, by omega, h3⟩⟩
  have HSA : Hid (IsSA (tx s) f) := hsa
  clear hown hgr hr hb1 hsa
  go_loopw [6, 7, 8] (fun v e i wr => ∃ k : Nat, k ≤ s.size + 1 ∧ i = .int .i64 (k : Int) ∧ e = .int .i64 ((endOf f k : Nat) : Int) ∧ wr.ownsRow w.heap.size 5 1 v (pre (tx s) f k).length (BL (pre (tx s) f k)) ∧ Below w.heap.size w wr ∧ Row wr g 3 (s.size + 1) (II (aheadV (tx s) f))) (fun _ _ i _ => s.size + 1 - (intOf i).toNat)
  case atStart => exact ⟨0, Nat.zero_le _, rfl, rfl, hown2, hb2, hr2⟩
  case round =>
    clear hown2 hb2 hr2
    obtain ⟨k, hk, rfl, rfl, hown, hb, hr⟩ := hrel
    have hpl := pre_length (tx s) f k
    by_cases hlt : k < s.size + 1
    · have hcf := hr.cell hlt
      rw [II_at] at hcf
      have hfk := HSA.out.le k (by rw [tx_length]; omega)
      rw [tx_length] at hfk
      by_cases h0 : f k = 0
      · have HN : Hid (pre (tx s) f (k + 1) = pre (tx s) f k ∧ endOf f (k + 1) = k) := ⟨pre_zero h0, by simp [endOf, h0]⟩
        rw [aheadV_zero h0] at hcf
        clear h0
        go_wp2
        go_roundw
        case rel => exact ⟨k + 1, by omega, by go_num, by rw [HN.out.2], by rw [HN.out.1]; exact hown, hb, hr⟩
        case measure => simp [intOf]; omega
      · have hpos : 0 < f k := by omega
        have hidx : f k - 1 < s.size := by omega
        have HN : Hid (pre (tx s) f (k + 1) = pre (tx s) f k ++ [s[f k - 1]] ∧ endOf f (k + 1) = endOf f k) := ⟨by rw [pre_next h0, tx_getD s _ hidx], by simp [endOf, h0]⟩
        rw [aheadV_pos h0, tx_getD s _ hidx] at hcf
        have hby := (s[f k - 1]).toNat_lt
        generalize hc : s[f k - 1] = c at *
        have HC : Hid (s[f k - 1] = c) := hc
        clear h0 hc
        have hsz := hb.size
        go_wp2_with (at_builtin; refine wpList_append_own _ rfl (.tmp 29) (.tmp 35) 60 rfl w.heap.size 5 i0 (.int .u8 0) 1 1 Try.underlying60 hi hz0 hz1 hz2 rfl (by decide) u6 (pre (tx s) f k).length _ rfl (hown.alloc _) ⟨wr.heap.size, 0, none⟩ 1 1 [.int .u8 (c.toNat : Int)] rfl rfl (cell_one_new _ _ _) (by simp; rfl) (by unfold maxLen; omega) (by omega) (by simp; omega) ?_; intro v' w1 hown1 hgr1 _)
        have hb1 : Below w.heap.size w w1 := (hb.alloc hsz _).grown hgr1 (by simp; omega) (fun k hk => (hown.lt k hk).1)
        have hr1 : Row w1 g 3 (s.size + 1) (II (aheadV (tx s) f)) := (hr.alloc _).grown hgr1 (row_ne_own hr hown (by decide))
        rw [BL_snoc] at hown1
        have hown1' : w1.ownsRow w.heap.size 5 1 v' (pre (tx s) f (k + 1)).length (BL (pre (tx s) f (k + 1))) := by
          rw [HN.out.1, List.length_append]; exact hown1
        go_roundw
        case rel => exact ⟨k + 1, by omega, by go_num, by rw [HN.out.2], hown1', hb1, hr1⟩
        case measure => simp [intOf]; omega
    · have hkn : k = s.size + 1 := by omega
      subst hkn
      have hcv := conv_own hown
      go_wp2
      go_ret3
      exact ⟨f, HSA.out, rfl, hb⟩

set_option maxRecDepth 10000 in
set_option maxHeartbeats 400000 in
theorem refTransform_long (s : ByteArray) (w : World) (hm : s.size ≤ maxLen) (hn : 2000 < s.size) :
    Calls Try.prog 17 #[.string s] w fun e w' => e = .returned (.tuple #[.string ByteArray.empty, .int .i64 0, .int .i64 1]) ∧ w' = w := by
  unfold maxLen at hm
  go_enter Try.func17, Try.ntmps17
  go_wp2_with fail
  go_ret3
  exact ⟨rfl, rfl⟩
set_option maxRecDepth 10000 in
set_option maxHeartbeats 400000 in
theorem transform_long (s : ByteArray) (w : World) (hm : s.size ≤ maxLen) (hn : 2000 < s.size) :
    Calls Try.prog 16 #[.string s] w fun e w' => e = .returned (.tuple #[.string ByteArray.empty, .int .i64 0, .int .i64 1]) ∧ w' = w := by
  unfold maxLen at hm
  go_enter Try.func16, Try.ntmps16
  go_wp2_with fail
  go_ret3
  exact ⟨rfl, rfl⟩
set_option maxRecDepth 10000 in
set_option maxHeartbeats 400000 in
theorem transform_ok (s : ByteArray) (w : World) (hn : s.size ≤ 2000) :
    Calls Try.prog 16 #[.string s] w fun e w' => ∃ f, IsSA (tx s) f ∧ e = .returned (.tuple #[.string (bs (pre (tx s) f (s.size + 1))), .int .i64 ((endOf f (s.size + 1) : Nat) : Int), .int .i64 0]) ∧ Below w.heap.size w w' := by
  go_enter Try.func16, Try.ntmps16
  go_wp2_with (go_at_call 38; refine (of_any s _ hn).mono ?_; rintro e w1 ⟨f, hsa, rfl, hb⟩)
  go_ret3
  exact ⟨f, hsa, rfl, hb⟩

end Go.Proofs.Ytkebgnpifmcmaaa
