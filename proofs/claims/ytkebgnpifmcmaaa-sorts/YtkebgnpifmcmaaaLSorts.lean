import Derived.Test.YtkebgnpifmcmaaaWF
namespace Go.Proofs.Ytkebgnpifmcmaaa
open Go.RowKit

set_option maxRecDepth 10000 in
set_option maxHeartbeats 400000 in
theorem sorts_walk (a0 : ByteArray) (w0 : a0.size ≤ maxLen) (w : World) :
    Calls Try.prog 3 #[.string a0] w fun e w' => e = .returned (.bool true) ∧ Below w.heap.size w w' := by
  by_cases hn : a0.size ≤ 2000
  · go_enter Try.func3, Try.ntmps3
    go_wp2_with fail
    refine (suffixes_ok a0 _ hn).mono ?_
    rintro e w1 ⟨ga, capa, fa, rfl, _, _, _, hra, hb1, hsa⟩
    go_wp2_with fail
    refine (refSuffixes_ok a0 _ hn).mono ?_
    rintro e w2 ⟨gb, capb, fb, rfl, _, _, _, hrb, hb2, hsb⟩
    have heq := hsa.unique hsb
    rw [tx_length] at heq
    have hra2 : Row w2 ga 3 (a0.size + 1) (II (fun j => (fb j : Int))) := (hra.below hb2 hra.lt).congr (fun j hj => by simp only [IN, II, heq j (by omega)])
    have hsz := hb1.size
    have hb12 := hb1.trans (hb2.mono hsz)
    clear heq hsa hsb
    go_wp2_with fail
    refine (same_true _ _ (a0.size + 1) (fun j => (fb j : Int)) _ (by omega) ⟨_, _, rfl, fun _ => ⟨_, rfl, hra2⟩⟩ ⟨_, _, rfl, fun _ => ⟨_, rfl, hrb⟩⟩).mono ?_
    rintro e w3 ⟨rfl, m, rfl⟩
    go_wp2
    go_ret
    exact ⟨rfl, bdrewN hb12 m⟩
  · have hn' : 2000 < a0.size := by omega
    go_enter Try.func3, Try.ntmps3
    go_wp2_with fail
    refine (suffixes_long a0 _ w0 hn').mono ?_
    rintro e w1 ⟨rfl, rfl⟩
    go_wp2_with fail
    refine (refSuffixes_long a0 _ w0 hn').mono ?_
    rintro e w2 ⟨rfl, rfl⟩
    go_wp2_with fail
    refine (same_true _ _ 0 (fun _ => 0) _ (by omega) ⟨_, _, rfl, fun h => by omega⟩ ⟨_, _, rfl, fun h => by omega⟩).mono ?_
    rintro e w3 ⟨rfl, m, rfl⟩
    go_wp2
    go_ret
    exact ⟨rfl, bdrewN (Below.refl _ _) m⟩

end Go.Proofs.Ytkebgnpifmcmaaa
