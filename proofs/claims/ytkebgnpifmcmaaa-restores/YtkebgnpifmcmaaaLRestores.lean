import Derived.Test.YtkebgnpifmcmaaaWK
namespace Go.Proofs.Ytkebgnpifmcmaaa
open Go.RowKit

set_option maxRecDepth 10000 in
set_option maxHeartbeats 400000 in
theorem restores_walk (a0 : ByteArray) (a1 : Int) (w0 : a0.size ≤ maxLen) (_w1 : (Lit.int .i64 a1).wf = true) (w : World) :
    Calls Try.prog 5 #[.string a0, .int .i64 a1] w fun e w' => e = .returned (.bool true) ∧ Below w.heap.size w w' := by
  by_cases hn : a0.size ≤ 2000
  · by_cases hx : a1 < 0 ∨ (a0.size : Int) < a1
    · have HX : Hid (a1 < 0 ∨ (a0.size : Int) < a1) := hx
      clear hx
      go_enter Try.func5, Try.ntmps5
      go_wp2_with fail
      refine (restore_out a0 a1 _ hn HX.out).mono ?_
      rintro e w1 ⟨rfl, rfl⟩
      go_wp2_with fail
      refine (refRestore_out a0 a1 _ hn HX.out).mono ?_
      rintro e w2 ⟨rfl, rfl⟩
      go_wp2
      go_ret
      exact ⟨rfl, Below.refl _ _⟩
    · obtain ⟨k, rfl⟩ := Int.eq_ofNat_of_zero_le (show 0 ≤ a1 by omega)
      have he : k ≤ a0.size := by omega
      clear hx
      go_enter Try.func5, Try.ntmps5
      go_wp2_with fail
      refine (restore_in a0 k _ hn he).mono ?_
      rintro e w1 ⟨h1, hb1⟩
      have HH := show Hid _ from h1
      clear h1
      rcases HH.out with ⟨hok, rfl⟩ | ⟨hok, rfl⟩
      · have HX : Hid (okBack (tx a0) k) := hok
        clear HH hok
        go_wp2_with fail
        refine (refRestore_in a0 k _ hn he).mono ?_
        rintro e w2 ⟨⟨_, rfl⟩ | ⟨hno, _⟩, hb2⟩
        · have hbb := hb1.trans (hb2.mono hb1.size)
          clear hb1 hb2
          go_wp2
          go_ret
          exact ⟨rfl, hbb⟩
        · exact absurd HX.out hno
      · have HX : Hid (¬ okBack (tx a0) k) := hok
        clear HH hok
        go_wp2_with fail
        refine (refRestore_in a0 k _ hn he).mono ?_
        rintro e w2 ⟨⟨hno, _⟩ | ⟨_, rfl⟩, hb2⟩
        · exact absurd hno HX.out
        · have hbb := hb1.trans (hb2.mono hb1.size)
          clear hb1 hb2
          go_wp2
          go_ret
          exact ⟨rfl, hbb⟩
  · have hn' : 2000 < a0.size := by omega
    go_enter Try.func5, Try.ntmps5
    go_wp2_with fail
    refine (restore_long a0 a1 _ w0 hn').mono ?_
    rintro e w1 ⟨rfl, rfl⟩
    go_wp2_with fail
    refine (refRestore_long a0 a1 _ w0 hn').mono ?_
    rintro e w2 ⟨rfl, rfl⟩
    go_wp2
    go_ret
    exact ⟨rfl, Below.refl _ _⟩

end Go.Proofs.Ytkebgnpifmcmaaa
