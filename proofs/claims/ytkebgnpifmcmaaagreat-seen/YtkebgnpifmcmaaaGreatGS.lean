import Derived.Test.YtkebgnpifmcmaaaGreatGL
namespace Go.Proofs.YtkebgnpifmcmaaaGreat
open Go.RowKit

set_option maxRecDepth 10000 in
set_option maxHeartbeats 400000 in
theorem stands_any (s p : ByteArray) (i : Nat) (w : World) (hn : s.size ≤ 2000) (hp : p.size ≤ 3000) (hi : i ≤ s.size) :
    Calls Tryz.prog 24 #[.string s, .string p, .int .i64 (i : Int)] w fun e w' => e = .returned (.bool (stP (tx s) (tx p) i)) ∧ w' = w := by
  by_cases h : i + p.size ≤ s.size
  · have HB := stP_ext s p i h
    have d1 : decide ((i : Int) + (p.size : Int) ≤ (s.size : Int)) = true := by simp only [decide_eq_true_eq]; omega
    generalize stP (tx s) (tx p) i = B at *
    go_enter Tryz.func24, Tryz.ntmps24
    go_wp2
    go_ret
    exact ⟨rfl, rfl⟩
  · have HB : Hid (stP (tx s) (tx p) i = false) := stP_long _ _ _ (by rw [tx_length]; exact hi) (by rw [tx_length, tx_length]; omega)
    rw [HB.out]
    have d1 : decide ((i : Int) + (p.size : Int) ≤ (s.size : Int)) = false := by simp only [decide_eq_false_iff_not]; omega
    go_enter Tryz.func24, Tryz.ntmps24
    go_wp2
    go_ret
    exact ⟨rfl, rfl⟩
end Go.Proofs.YtkebgnpifmcmaaaGreat

namespace Go.Proofs.YtkebgnpifmcmaaaGreat
open Go.RowKit

set_option maxRecDepth 10000 in
set_option maxHeartbeats 1000000 in
theorem places_any (s p : ByteArray) (w : World) (hn : s.size ≤ 2000) (hp : p.size ≤ 3000) :
    Calls Tryz.prog 14 #[.string s, .string p] w fun e w' => ∃ v, e = .returned v ∧ OwnL w' w.heap.size v (filt (stP (tx s) (tx p)) (s.size + 1)) ∧ Below w.heap.size w w' := by
  obtain ⟨i0, hi, hz0, hz1, hz2⟩ := info_parts Tryz.info3
  have HST : Hid (∀ (i : Nat) w, i ≤ s.size → Calls Tryz.prog 24 #[.string s, .string p, .int .i64 (i : Int)] w fun e w' => e = .returned (.bool (stP (tx s) (tx p) i)) ∧ w' = w) := fun i w h => stands_any s p i w hn hp h
  generalize hB : stP (tx s) (tx p) = B at *
  clear hB
  go_enter Tryz.func14, Tryz.ntmps14
  go_wp2_with fail
  go_loopw [5, 6, 7] (fun v i _ wr => ∃ k : Nat, k ≤ s.size + 1 ∧ i = .int .i64 (k : Int) ∧ wr.ownsRow w.heap.size 3 1 v (filt B k).length (NL (filt B k)) ∧ Below w.heap.size w wr) (fun _ i _ _ => s.size + 1 - (intOf i).toNat)
  case atStart => exact ⟨0, Nat.zero_le _, rfl, World.ownsRow_nil _ _ _ _, Below.refl _ _⟩
  case round =>
    obtain ⟨k, hk, rfl, hown, hb⟩ := hrel
    by_cases hlt : k < s.size + 1
    · have d1 : (k : Int) ≤ (s.size : Int) := by omega
      have HC : Hid _ := HST.out k wr (by omega)
      clear HST
      have hfl : (filt B k).length ≤ k := by rw [filt_length]; exact cntB_le _ _
      go_wp2_with fail
      refine Calls.mono HC.out ?_
      clear HC
      rintro en w1 ⟨rfl, rfl⟩
      cases hBk : B k with
      | false =>
        have HN : Hid (filt B (k + 1) = filt B k) := filt_no hBk
        clear hBk
        go_wp2
        go_roundw
        case rel => exact ⟨k + 1, by omega, by go_num, by rw [HN.out]; exact hown, hb⟩
        case measure => simp [intOf]; omega
      | true =>
        have HN : Hid (filt B (k + 1) = filt B k ++ [k]) := filt_yes hBk
        clear hBk
        have hsz := hb.size
        go_wp2_with (at_builtin; refine wpList_append_own _ rfl (.tmp 19) (.tmp 21) 34 rfl w.heap.size 3 i0 (.int .i64 0) 1 8 Tryz.underlying34 hi hz0 hz1 hz2 rfl (by decide) u5 (filt B k).length _ rfl (hown.alloc _) ⟨w1.heap.size, 0, none⟩ 1 1 [.int .i64 (k : Int)] rfl rfl (cell_one_new _ _ _) (by simp; rfl) (by unfold maxLen; omega) (by omega) (by simp; omega) ?_; intro v' w2 hown1 hgr1 _)
        have hb1 : Below w.heap.size w w2 := (hb.alloc hsz _).grown hgr1 (by simp; omega) (fun k hk => (hown.lt k hk).1)
        rw [NL_snoc] at hown1
        have hown1' : w2.ownsRow w.heap.size 3 1 v' (filt B (k + 1)).length (NL (filt B (k + 1))) := by
          rw [HN.out, List.length_append]; exact hown1
        go_roundw
        case rel => exact ⟨k + 1, by omega, by go_num, hown1', hb1⟩
        case measure => simp [intOf]; omega
    · have hkn : k = s.size + 1 := by omega
      subst hkn
      go_wp2
      go_ret
      exact ⟨_, rfl, hown, hb⟩
end Go.Proofs.YtkebgnpifmcmaaaGreat
