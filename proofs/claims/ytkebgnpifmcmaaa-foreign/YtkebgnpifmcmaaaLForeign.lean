import Derived.Test.YtkebgnpifmcmaaaGI
namespace Go.Proofs.Ytkebgnpifmcmaaa
open Go.RowKit

set_option maxRecDepth 10000 in
set_option maxHeartbeats 1000000 in
theorem foreign_walk (a0 : ByteArray) (a10 a11 a12 a2 a3 : Int) (w : World) :
    Calls Try.prog 10 #[.string a0, .agg #[.int .i64 a10, .int .i64 a11, .int .i64 a12], .int .i64 a2, .int .i64 a3] w fun e w' => e = .returned (.bool true) ∧ Below w.heap.size w w' := by
  have hb0 : Below w.heap.size w (w.alloc (.cells #[.int .i64 a10, .int .i64 a11, .int .i64 a12] 40)) := (Below.refl _ _).alloc (Nat.le_refl _) _
  have k0 := Blk.new w 40 #[.int .i64 a10, .int .i64 a11, .int .i64 a12]
  have HM : Hid _ := told_any a0 (w.alloc (.cells #[.int .i64 a10, .int .i64 a11, .int .i64 a12] 40))
  go_enter Try.func10, Try.ntmps10
  go_wp2_with fail
  refine Calls.mono HM.out ?_
  clear HM
  rintro en w2 ⟨hres, hb1⟩
  have hk1 := k0.below hb1 k0.lt
  have hb2 := hb0.trans (hb1.mono hb0.size)
  clear k0 hb0 hb1
  have p0 : w2.cell? ⟨w.heap.size, 0, none⟩ = some (.int .i64 a10) := hk1.cell 0
  have p1 : w2.cell? ⟨w.heap.size, 1, none⟩ = some (.int .i64 a11) := hk1.cell 1
  have p2 : w2.cell? ⟨w.heap.size, 2, none⟩ = some (.int .i64 a12) := hk1.cell 2
  rcases hres with ⟨hR, rfl⟩ | ⟨hR, rfl⟩
  · have HC : Hid _ := ranked_yes a0 (bs (imT a0)) a10 a11 a12 a2 a3 w2 hR (by rw [tx_bs])
    clear hR
    go_wp2_with fail
    refine Calls.mono HC.out ?_
    clear HC
    rintro en w3 ⟨rfl, hb3⟩
    go_wp2
    go_ret
    exact ⟨rfl, hb2.trans (hb3.mono hb2.size)⟩
  · have HC : Hid _ := ranked_no a0 { data := #[] } a10 a11 a12 a2 a3 w2 hR
    clear hR
    go_wp2_with fail
    refine Calls.mono HC.out ?_
    clear HC
    rintro en w3 ⟨rfl, hb3⟩
    go_wp2
    go_ret
    exact ⟨rfl, hb2.trans (hb3.mono hb2.size)⟩
end Go.Proofs.Ytkebgnpifmcmaaa
