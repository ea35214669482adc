import Derived.Test.YtkebgnpifmcmaaaWM
namespace Go.Proofs.Ytkebgnpifmcmaaa
open Go.RowKit

def VB (f : Nat → Bool) : Nat → Value := fun j => .bool (f j)
theorem VB_at (f : Nat → Bool) (j : Nat) : VB f j = .bool (f j) := rfl
theorem Row.setBool {w : World} {g : Nat} {e : TypeId} {n : Nat} {f : Nat → Bool} (h : Row w g e n (VB f)) (j : Nat) (x : Bool) : Row (w.setCell ⟨g, j, none⟩ (.bool x)) g e n (VB (upd f j x)) := by
  have e1 : updV (VB f) j (.bool x) = VB (upd f j x) := by funext i; simp only [updV, VB, upd]; split <;> rfl
  rw [← e1]; exact h.set j _
theorem Try.info4 : (Try.prog.info? 4).map (fun i => (i.zero, i.size, i.bytes)) = some (some (.bool false), 1, 1) := by kernel_rfl

set_option maxRecDepth 10000 in
set_option maxHeartbeats 1000000 in
theorem ordered_walk (a0 : ByteArray) (w0 : a0.size ≤ maxLen) (w : World) :
    Calls Try.prog 6 #[.string a0] w fun e w' => e = .returned (.bool true) ∧ Below w.heap.size w w' := by
  obtain ⟨i0, hi, hz0, hz1, hz2⟩ := info_parts Try.info4
  go_enter Try.func6, Try.ntmps6
  go_wp2_with fail
  refine (sorting_any _).mono ?_
  rintro e w1 ⟨rfl, hb1⟩
  go_wp2_with fail
  refine (short_any a0 2000 _ (by omega) (by omega) w0).mono ?_
  rintro e w1 ⟨s, rfl, hs, rfl⟩
  have hn : s.size ≤ 2000 := by omega
  clear hs
  go_wp2_with fail
  refine (suffixes_ok s _ hn).mono ?_
  rintro e w2 ⟨g, cap, f, rfl, hg, _, _, hr, hb2, hsa⟩
  have hsz1 := hb1.size
  have hsz2 := hb2.size
  have hb12 := hb1.trans (hb2.mono hsz1)
  have HSA : Hid (IsSA (tx s) f) := hsa
  have hlen : ((s.size : Int) + 1 != (s.size : Int) + 1) = false := by simp
  clear hsa hb1 hb2
  go_wp2_with (at_make; refine wpList_make_full _ rfl _ _ 36 rfl w2.heap.size 4 i0 (.bool false) 1 Try.underlying36 hi hz0 hz1 .i64 .i64 _ _ (s.size + 1) rfl rfl (by omega) (by omega) (by rw [hz2]; omega) (by unfold maxLen; omega) (by omega) ?_; intro w3 hown hgr)
  have hrow : Row w3 w2.heap.size 4 (s.size + 1) (VB fun _ => false) := Row.made hown
  have hb3 := hb12.grown hgr (by omega) (fun _ h => by cases h)
  have hr3 := hr.grown hgr (by simp)
  have hglt := hr.lt
  have hGw : w.heap.size ≤ w2.heap.size := by omega
  obtain ⟨G, hG⟩ : ∃ G, G = w2.heap.size := ⟨_, rfl⟩
  rw [← hG] at hrow hglt hGw ⊢
  clear hown hgr hr hb12 hG hsz1 hsz2
  go_loopw [8] (fun i wr => ∃ k : Nat, k ≤ s.size + 1 ∧ i = .int .i64 (k : Int) ∧ (∃ sf, Row wr G 4 (s.size + 1) (VB sf) ∧ Hid (∀ j, sf j = true → ∃ i, i < k ∧ f i = j)) ∧ Row wr g 3 (s.size + 1) (IN f) ∧ Below w.heap.size w wr) (fun i _ => s.size + 1 - (intOf i).toNat)
  case atStart => exact ⟨0, Nat.zero_le _, rfl, ⟨_, hrow, fun j hj => by cases hj⟩, hr3, hb3⟩
  case round =>
    clear hrow hr3 hb3
    obtain ⟨k, hk, rfl, ⟨sf, hsf, HF⟩, hr, hb⟩ := hrel
    by_cases hlt : k < s.size + 1
    · have hfk := HSA.out.le k (by rw [tx_length]; omega)
      rw [tx_length] at hfk
      have hc1 := hr.cell hlt
      have hc2 := hsf.cell (show f k < s.size + 1 by omega)
      have hfz := hsf.free (f k)
      have hnot : sf (f k) = false := by
        rw [← Bool.not_eq_true]
        intro h
        obtain ⟨i, hi, e⟩ := HF.out _ h
        have := HSA.out.inj (i := i) (j := k) (by rw [tx_length]; omega) (by rw [tx_length]; omega) e
        omega
      rw [IN_at] at hc1
      rw [VB_at, hnot] at hc2
      have t1 : decide ((f k : Int) < 0) = false := by simp
      have t2 : decide (s.size < f k) = false := by simp; omega
      have HN : Hid (∀ j, upd sf (f k) true j = true → ∃ i, i < k + 1 ∧ f i = j) := by
        intro j hj
        by_cases e : j = f k
        · exact ⟨k, by omega, e.symm⟩
        · rw [upd_ne _ _ _ e] at hj
          obtain ⟨i, hi, e⟩ := HF.out j hj
          exact ⟨i, by omega, e⟩
      clear hnot
      by_cases hk0 : k = 0
      · subst hk0
        go_wp2
        go_quiet (fail)
        go_wp2
        go_roundw
        case rel => exact ⟨1, by omega, by go_num, ⟨_, (hsf.setBool (f 0) true).drewN _, HN⟩, (hr.setOther (by show g ≠ G; omega) _).drewN _, bdrewN (hb.setCell hGw _) _⟩
        case measure => simp [intOf]
      · have t3 : decide (0 < k) = true := by simp; omega
        have t4 : decide ((0 : Int) < (k : Int)) = true := by simp; omega
        have hfk1 := HSA.out.le (k - 1) (by rw [tx_length]; omega)
        rw [tx_length] at hfk1
        have hc3 := hr.cell (show k - 1 < s.size + 1 by omega)
        rw [IN_at] at hc3
        have hls := HSA.out.lt (k - 1) k (by omega) (by rw [tx_length]; omega)
        rw [← less_ext] at hls
        go_wp2
        go_quiet (fail)
        go_wp2
        go_roundw
        case rel => exact ⟨k + 1, by omega, by go_num, ⟨_, (hsf.setBool (f k) true).drewN _, HN⟩, (hr.setOther (by show g ≠ G; omega) _).drewN _, bdrewN (hb.setCell hGw _) _⟩
        case measure => simp [intOf]; omega
    · go_wp2
      go_ret
      exact ⟨rfl, hb⟩

end Go.Proofs.Ytkebgnpifmcmaaa
