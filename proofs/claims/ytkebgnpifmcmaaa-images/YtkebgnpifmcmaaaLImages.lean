import Derived.Test.YtkebgnpifmcmaaaXZd
namespace Go.Proofs.Ytkebgnpifmcmaaa
open Go.RowKit

theorem refBuild_any (s : ByteArray) (x : Int) (w : World) (hm : s.size ≤ maxLen) : Calls Try.prog 23 #[.string s, .int .i64 x] w fun e w' => e = .returned (.int .i64 (if 2000 < s.size then 1 else if x < 1 ∨ 64 < x then 2 else 0)) ∧ w' = w := by
  unfold maxLen at hm
  by_cases h1 : 2000 < s.size
  · rw [if_pos h1]
    go_enter Try.func23, Try.ntmps23
    go_wp2
    go_ret
    exact ⟨rfl, rfl⟩
  · rw [if_neg h1]
    have h1' : s.size ≤ 2000 := by omega
    by_cases h2 : x < 1
    · rw [if_pos (.inl h2)]
      have hd : decide (x < 1) = true := by simpa using h2
      go_enter Try.func23, Try.ntmps23
      go_wp2
      go_ret
      exact ⟨rfl, rfl⟩
    · have hd : decide (x < 1) = false := by simpa using h2
      by_cases h3 : 64 < x
      · rw [if_pos (.inr h3)]
        have hd2 : decide (64 < x) = true := by simpa using h3
        go_enter Try.func23, Try.ntmps23
        go_wp2
        go_ret
        exact ⟨rfl, rfl⟩
      · rw [if_neg (by omega)]
        have hd2 : decide (64 < x) = false := by simpa using h3
        go_enter Try.func23, Try.ntmps23
        go_wp2
        go_ret
        exact ⟨rfl, rfl⟩

theorem isImg_ne {t : List UInt8} {rate : Nat} {im : List UInt8} (h : IsImg t rate im) : im ≠ [] := by
  obtain ⟨f, f2, _, _, rfl⟩ := h
  rw [imgB_parts]; simp [prt]

set_option maxRecDepth 10000 in
set_option maxHeartbeats 1000000 in
theorem images_walk (a0 : ByteArray) (a1 : Int) (w0 : a0.size ≤ maxLen) (_w1 : (Lit.int .i64 a1).wf = true) (w : World) :
    Calls Try.prog 8 #[.string a0, .int .i64 a1] w fun e w' => e = .returned (.bool true) ∧ Below w.heap.size w w' := by
  have hem : ByteArray.empty = ({ data := #[] } : ByteArray) := rfl
  have HNE : Hid (¬ Reads { data := #[] }) := reads_empty
  by_cases hbad : 2000 < a0.size ∨ (a0.size ≤ 2000 ∧ (a1 < 1 ∨ 64 < a1))
  · have HB : Hid (∃ c : Int, (c = 1 ∨ c = 2) ∧ (Calls Try.prog 22 #[.string a0, .int .i64 a1] w fun en w' => en = .returned (.tuple #[.string { data := #[] }, .int .i64 c]) ∧ w' = w) ∧ ∀ w, Calls Try.prog 23 #[.string a0, .int .i64 a1] w fun e w' => e = .returned (.int .i64 c) ∧ w' = w) := by
      rcases hbad with h | ⟨h, h'⟩
      · exact ⟨1, .inl rfl, build_long a0 a1 w w0 h, fun w => by have := refBuild_any a0 a1 w w0; rw [if_pos h] at this; exact this⟩
      · exact ⟨2, .inr rfl, build_rate a0 a1 w h h', fun w => by have := refBuild_any a0 a1 w w0; rw [if_neg (by omega), if_pos h'] at this; exact this⟩
    clear hbad
    obtain ⟨c, hc, hB, hR⟩ := HB.out
    have HB1 : Hid _ := hB
    have HR1 : Hid _ := hR
    clear HB hB hR
    rcases hc with rfl | rfl
    all_goals
      go_enter Try.func8, Try.ntmps8
      go_wp2_with fail
      refine Calls.mono HB1.out ?_
      rintro en w1 ⟨rfl, rfl⟩
      go_wp2_with fail
      refine Calls.mono (HR1.out _) ?_
      rintro en w2 ⟨rfl, rfl⟩
      go_wp2_with fail
      refine Calls.mono (text_any _ _) ?_
      rintro en w3 ⟨hres, hb3⟩
      rcases hres with ⟨hR, _⟩ | ⟨_, rfl⟩
      · exact absurd hR HNE.out
      · clear HB1 HR1
        go_wp2
        go_ret
        exact ⟨rfl, hb3⟩
  · have hn : a0.size ≤ 2000 := by omega
    have h1 : 1 ≤ a1 := by omega
    have h2 : a1 ≤ 64 := by omega
    obtain ⟨rate, rfl⟩ : ∃ rate : Nat, a1 = (rate : Int) := ⟨a1.toNat, by omega⟩
    have HR1 : Hid (∀ w, Calls Try.prog 23 #[.string a0, .int .i64 (rate : Int)] w fun e w' => e = .returned (.int .i64 0) ∧ w' = w) := fun w => by
      have := refBuild_any a0 (rate : Int) w w0
      rw [if_neg (by omega), if_neg (by omega)] at this
      exact this
    clear hbad
    go_enter Try.func8, Try.ntmps8
    go_wp2_with fail
    refine (build_ok a0 rate w hn (by omega) (by omega)).mono ?_
    rintro en w1 ⟨im, him, rfl, hb1⟩
    have HRD : Hid _ := reads_img him (by rw [tx_length]; exact hn) (by omega) (by omega)
    have hne : (bs im).toList.isEmpty = false := by
      rw [List.isEmpty_eq_false_iff]
      intro h
      exact isImg_ne him (bs_inj (toList_inj (h.trans (show ([] : List UInt8) = (bs []).toList from by rw [Lib.toList_data]; rfl))))
    clear him
    go_wp2_with fail
    refine Calls.mono (HR1.out _) ?_
    rintro en w2 ⟨rfl, rfl⟩
    go_wp2_with fail
    refine Calls.mono (text_any _ _) ?_
    rintro en w3 ⟨hres, hb3⟩
    have hb4 := hb1.trans (hb3.mono hb1.size)
    clear hb1 hb3 HR1
    rcases hres with ⟨_, rfl⟩ | ⟨hN, _⟩
    · rw [HRD.out.2.1, HRD.out.2.2, bs_tx]
      clear HRD
      generalize bs im = IM at *
      have q1 : (a0.toList == a0.toList) = true := by simp
      have q2 : ((rate : Int) == (rate : Int)) = true := by simp
      go_wp2
      go_ret
      exact ⟨rfl, hb4⟩
    · exact absurd HRD.out.1 hN
end Go.Proofs.Ytkebgnpifmcmaaa
