import Derived.Test.YtkebgnpifmcmaaaGI
namespace Go.Proofs.Ytkebgnpifmcmaaa
open Go.RowKit

set_option maxRecDepth 10000 in
set_option maxHeartbeats 1000000 in
theorem ranks_walk (a0 : ByteArray) (a1 a20 a21 a22 a3 a4 : Int) (w0 : a0.size ≤ maxLen) (w1 : (Lit.int .i64 a1).wf = true) (w : World) :
    Calls Try.prog 9 #[.string a0, .int .i64 a1, .agg #[.int .i64 a20, .int .i64 a21, .int .i64 a22], .int .i64 a3, .int .i64 a4] w fun e w' => e = .returned (.bool true) ∧ Below w.heap.size w w' := by
  have hb0 : Below w.heap.size w (w.alloc (.cells #[.int .i64 a20, .int .i64 a21, .int .i64 a22] 40)) := (Below.refl _ _).alloc (Nat.le_refl _) _
  have k0 := Blk.new w 40 #[.int .i64 a20, .int .i64 a21, .int .i64 a22]
  have HM : Hid _ := made_any a0 a1 (w.alloc (.cells #[.int .i64 a20, .int .i64 a21, .int .i64 a22] 40)) w0 w1
  go_enter Try.func9, Try.ntmps9
  go_wp2_with fail
  refine Calls.mono HM.out ?_
  clear HM
  rintro en w2 ⟨im, s, rate, hI, hs, rfl, hb1⟩
  have hk1 := k0.below hb1 k0.lt
  have hb2 := hb0.trans (hb1.mono hb0.size)
  clear k0 hb0 hb1
  have p0 : w2.cell? ⟨w.heap.size, 0, none⟩ = some (.int .i64 a20) := hk1.cell 0
  have p1 : w2.cell? ⟨w.heap.size, 1, none⟩ = some (.int .i64 a21) := hk1.cell 1
  have p2 : w2.cell? ⟨w.heap.size, 2, none⟩ = some (.int .i64 a22) := hk1.cell 2
  have HC : Hid _ := ranked_yes im s a20 a21 a22 a3 a4 w2 hI.1 hI.2.1
  clear hI
  go_wp2_with fail
  refine Calls.mono HC.out ?_
  clear HC
  rintro en w3 ⟨rfl, hb3⟩
  go_wp2
  go_ret
  exact ⟨rfl, hb2.trans (hb3.mono hb2.size)⟩
end Go.Proofs.Ytkebgnpifmcmaaa
