import Derived.Test.YtkebgnpifmcmaaaWJ
namespace Go.Proofs.Ytkebgnpifmcmaaa
open Go.RowKit

set_option maxRecDepth 10000 in
set_option maxHeartbeats 400000 in
theorem restore_long (s : ByteArray) (x : Int) (w : World) (hm : s.size ≤ maxLen) (hn : 2000 < s.size) :
    Calls Try.prog 18 #[.string s, .int .i64 x] w fun e w' => e = .returned (.tuple #[.string ByteArray.empty, .int .i64 1]) ∧ w' = w := by
  unfold maxLen at hm
  go_enter Try.func18, Try.ntmps18
  go_wp2_with fail
  go_ret2
  exact ⟨rfl, rfl⟩
set_option maxRecDepth 10000 in
set_option maxHeartbeats 400000 in
theorem restore_out (s : ByteArray) (x : Int) (w : World) (hn : s.size ≤ 2000) (hx : x < 0 ∨ (s.size : Int) < x) :
    Calls Try.prog 18 #[.string s, .int .i64 x] w fun e w' => e = .returned (.tuple #[.string ByteArray.empty, .int .i64 3]) ∧ w' = w := by
  go_enter Try.func18, Try.ntmps18
  go_wp2_with fail
  refine (restoreIn_out s x _ hn hx).mono ?_
  rintro e w1 ⟨rfl, rfl⟩
  go_wp2_with fail
  go_ret2
  exact ⟨rfl, rfl⟩
set_option maxRecDepth 10000 in
set_option maxHeartbeats 400000 in
theorem restore_in (s : ByteArray) (e : Nat) (w : World) (hn : s.size ≤ 2000) (he : e ≤ s.size) :
    Calls Try.prog 18 #[.string s, .int .i64 (e : Int)] w fun en w' =>
      ((okBack (tx s) e ∧ en = .returned (.tuple #[.string (bs (backText (tx s) e)), .int .i64 0])) ∨ (¬ okBack (tx s) e ∧ en = .returned (.tuple #[.string ByteArray.empty, .int .i64 3]))) ∧ Below w.heap.size w w' := by
  go_enter Try.func18, Try.ntmps18
  go_wp2_with fail
  refine (restoreIn_any s e _ hn he).mono ?_
  rintro en w1 ⟨⟨hok, rfl⟩ | ⟨hok, rfl⟩, hb⟩
  · have HX : Hid (okBack (tx s) e) := hok
    clear hok
    go_wp2_with fail
    go_ret2
    exact ⟨.inl ⟨HX.out, rfl⟩, hb⟩
  · have HX : Hid (¬ okBack (tx s) e) := hok
    clear hok
    go_wp2_with fail
    go_ret2
    exact ⟨.inr ⟨HX.out, rfl⟩, hb⟩

set_option maxRecDepth 10000 in
set_option maxHeartbeats 400000 in
theorem refRestore_long (s : ByteArray) (x : Int) (w : World) (hm : s.size ≤ maxLen) (hn : 2000 < s.size) :
    Calls Try.prog 19 #[.string s, .int .i64 x] w fun e w' => e = .returned (.tuple #[.string ByteArray.empty, .int .i64 1]) ∧ w' = w := by
  unfold maxLen at hm
  go_enter Try.func19, Try.ntmps19
  go_wp2_with fail
  go_ret2
  exact ⟨rfl, rfl⟩
set_option maxRecDepth 10000 in
set_option maxHeartbeats 400000 in
theorem refRestore_out (s : ByteArray) (x : Int) (w : World) (hn : s.size ≤ 2000) (hx : x < 0 ∨ (s.size : Int) < x) :
    Calls Try.prog 19 #[.string s, .int .i64 x] w fun e w' => e = .returned (.tuple #[.string ByteArray.empty, .int .i64 3]) ∧ w' = w := by
  rcases hx with h | h
  · have hd : decide (x < 0) = true := by simpa using h
    go_enter Try.func19, Try.ntmps19
    go_wp2_with fail
    go_ret2
    exact ⟨rfl, rfl⟩
  · have hd : decide (x < 0) = false := by simp; omega
    have hd2 : decide ((s.size : Int) < x) = true := by simpa using h
    go_enter Try.func19, Try.ntmps19
    go_wp2_with fail
    go_ret2
    exact ⟨rfl, rfl⟩
set_option maxRecDepth 10000 in
set_option maxHeartbeats 400000 in
theorem refRestore_in (s : ByteArray) (e : Nat) (w : World) (hn : s.size ≤ 2000) (he : e ≤ s.size) :
    Calls Try.prog 19 #[.string s, .int .i64 (e : Int)] w fun en w' =>
      ((okBack (tx s) e ∧ en = .returned (.tuple #[.string (bs (backText (tx s) e)), .int .i64 0])) ∨ (¬ okBack (tx s) e ∧ en = .returned (.tuple #[.string ByteArray.empty, .int .i64 3]))) ∧ Below w.heap.size w w' := by
  have hd : decide ((e : Int) < 0) = false := by simp
  have hd2 : decide ((s.size : Int) < (e : Int)) = false := by simp; omega
  go_enter Try.func19, Try.ntmps19
  go_wp2_with fail
  refine (guess_any s e _ hn he).mono ?_
  rintro en w1 ⟨⟨hok, rfl⟩ | ⟨hok, rfl⟩, hb⟩
  · have HX : Hid (okBack (tx s) e) := hok
    have hbl : (bs (backText (tx s) e)).size = s.size := by rw [bs_size, backText_length, tx_length]
    have hbl2 : (bs (backText (tx s) e)).size ≤ 2000 := by omega
    have HB : Hid _ := hbl
    clear hok hbl
    go_wp2_with fail
    refine (refTransform_ok (bs (backText (tx s) e)) _ hbl2).mono ?_
    rintro en w2 ⟨f, hsa, rfl, hb2⟩
    rw [tx_bs] at hsa
    have T := back_transform (L := tx s) (e := e) (by rw [tx_length]; exact he) HX.out hsa
    rw [tx_bs, HB.out]
    rw [tx_length] at T
    rw [T.1, T.2, bs_tx]
    have hbb := hb.trans (hb2.mono hb.size)
    clear T hsa hb hb2
    go_wp2_with fail
    go_ret2
    exact ⟨.inl ⟨HX.out, rfl⟩, hbb⟩
  · have HX : Hid (¬ okBack (tx s) e) := hok
    have hpos : 0 < s.size := by
      rcases Nat.eq_zero_or_pos s.size with h | h
      · exact absurd (fun j hj => by rw [tx_length] at hj; omega) hok
      · exact h
    clear hok
    go_wp2_with fail
    refine (refTransform_ok ByteArray.empty _ (by decide)).mono ?_
    rintro en w2 ⟨f, hsa, rfl, hb2⟩
    have f0 : f 0 = 0 := Nat.le_zero.1 (hsa.le 0 (Nat.zero_le _))
    have p0 : pre (tx ByteArray.empty) f (ByteArray.empty.size + 1) = [] := by
      show pre (tx ByteArray.empty) f (0 + 1) = []
      rw [pre_zero f0]; rfl
    rw [p0]
    have hne : ¬ (bs []).toList = s.toList := by
      rw [Lib.toList_data, Lib.toList_data]
      intro h
      have : s.size = 0 := by rw [← tx_length]; unfold tx; rw [← h]; rfl
      omega
    have hbb := hb.trans (hb2.mono hb.size)
    clear p0 f0 hsa hb hb2
    generalize endOf f (ByteArray.empty.size + 1) = E
    go_wp2_with fail
    go_ret2
    exact ⟨.inr ⟨HX.out, rfl⟩, hbb⟩

end Go.Proofs.Ytkebgnpifmcmaaa
