import Derived.Test.YtkebgnpifmcmaaaWH
namespace Go.Proofs.Ytkebgnpifmcmaaa
open Go.RowKit

set_option maxRecDepth 10000 in
set_option maxHeartbeats 400000 in
theorem transforms_walk (a0 : ByteArray) (w0 : a0.size ≤ maxLen) (w : World) :
    Calls Try.prog 4 #[.string a0] w fun e w' => e = .returned (.bool true) ∧ Below w.heap.size w w' := by
  by_cases hn : a0.size ≤ 2000
  · go_enter Try.func4, Try.ntmps4
    go_wp2_with fail
    refine (transform_ok a0 _ hn).mono ?_
    rintro e w1 ⟨fa, hsa, rfl, hb1⟩
    go_wp2_with fail
    refine (refTransform_ok a0 _ hn).mono ?_
    rintro e w2 ⟨fb, hsb, rfl, hb2⟩
    have heq := hsa.unique hsb
    rw [tx_length] at heq
    have hpe := pre_congr (t := tx a0) (f := fa) (g := fb) (k := a0.size + 1) (fun j hj => heq j (by omega))
    rw [hpe.1, hpe.2]
    have hb12 := hb1.trans (hb2.mono hb1.size)
    clear heq hsa hsb hpe hb1 hb2
    generalize bs (pre (tx a0) fb (a0.size + 1)) = B
    generalize endOf fb (a0.size + 1) = E
    have q1 : (B.toList == B.toList) = true := by simp
    have q2 : ((E : Int) == (E : Int)) = true := by simp
    go_wp2
    go_ret
    exact ⟨rfl, hb12⟩
  · have hn' : 2000 < a0.size := by omega
    go_enter Try.func4, Try.ntmps4
    go_wp2_with fail
    refine (transform_long a0 _ w0 hn').mono ?_
    rintro e w1 ⟨rfl, rfl⟩
    go_wp2_with fail
    refine (refTransform_long a0 _ w0 hn').mono ?_
    rintro e w2 ⟨rfl, rfl⟩
    go_wp2
    go_ret
    exact ⟨rfl, Below.refl _ _⟩

end Go.Proofs.Ytkebgnpifmcmaaa
