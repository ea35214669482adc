import Derived.Test.YtkebgnpifmcmaabGreatGZ
namespace Go.Proofs.YtkebgnpifmcmaabGreat
open Go.RowKit

set_option maxRecDepth 10000 in
set_option maxHeartbeats 1000000 in
theorem editions_walk (a0 : ByteArray) (a1 : Int) (a2 : ByteArray) (a3 : Int) (w0 : a0.size ≤ maxLen) (w1 : (Lit.int .i64 a1).wf = true) (w2 : a2.size ≤ maxLen) (w : World) :
    Calls Tryz.prog 4 #[.string a0, .int .i64 a1, .string a2, .int .i64 a3] w fun e w' => e = .returned (.bool true) ∧ Below w.heap.size w w' := by
  have HM : Hid _ := made_any a0 a1 w w0 w1
  go_enter Tryz.func4, Tryz.ntmps4
  go_wp2_with fail
  refine Calls.mono HM.out ?_
  clear HM
  rintro en wa ⟨im, s, rate, hI, hs, rfl, hb1⟩
  have HC : Hid _ := edited_yes im s a2 a3 wa hI.1 hI.2.1 w2
  clear hI
  go_wp2_with fail
  refine Calls.mono HC.out ?_
  clear HC
  rintro en wb ⟨rfl, hb3⟩
  go_wp2
  go_ret
  exact ⟨rfl, hb1.trans (hb3.mono hb1.size)⟩
end Go.Proofs.YtkebgnpifmcmaabGreat
