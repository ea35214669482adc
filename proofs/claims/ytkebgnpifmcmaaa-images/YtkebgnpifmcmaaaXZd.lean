import Derived.Test.YtkebgnpifmcmaaaXZc
namespace Go.Proofs.Ytkebgnpifmcmaaa
open Go.RowKit

theorem enterSideText (args : Array Value) (w : World) : (callFunc 45 args).run Try.prog w = .ok (.enter 45 args) w := Go.MuLone.run_callFunc_enter (P := Try.prog) Try.func45 (by kernel_rfl) rfl args w

def TextRes (im : ByteArray) (w : World) (e : Ending) (w' : World) : Prop :=
  ((Reads im ∧ e = .returned (.tuple #[.string (bs (backText (tx (iS im 1)) (iE im 1))), .int .i64 (mRate (rBody im 0) : Int), .int .i64 0])) ∨
    (¬ Reads im ∧ e = .returned (.tuple #[.string { data := #[] }, .int .i64 0, .int .i64 4]))) ∧ Below w.heap.size w w'

set_option maxRecDepth 10000 in
set_option maxHeartbeats 1000000 in
theorem text_any (im : ByteArray) (w : World) : Calls Try.prog 24 #[.string im] w (TextRes im w) := by
  have HIX : Hid _ := index_any im w
  go_enter Try.func24, Try.ntmps24
  go_wp2_with fail
  refine Calls.mono HIX.out ?_
  clear HIX
  rintro en w1 ⟨hres, hb1⟩
  rcases hres with ⟨hR, g, f, hf, rfl, hQ⟩ | ⟨hno, rfl⟩
  case inr =>
    have HNR : Hid (¬ Reads im) := hno
    clear hno
    go_wp2_with fail
    go_ret3
    exact ⟨.inr ⟨HNR.out, rfl⟩, hb1⟩
  case inl =>
    have HRD : Hid (Reads im) := hR
    have hsz : (iS im 1).size ≤ 2000 := by
      rw [show (iS im 1).size = mSize (rBody im 0) from sText_size _ _ hR.1.2.2.2.1]; exact hR.1.2.2.1.2.1
    have HJ : Hid _ := hR.2.1.1
    clear hR hf
    obtain ⟨c1, c2, m0, m1, m2, pl, base, hk, hC1, _⟩ := hQ
    have hc4 : w1.cell? ⟨g, 4, none⟩ = some (.int .i64 (mRate (rBody im 0) : Int)) := hk.cell 4
    have hc0 : w1.cell? ⟨g, 0, none⟩ = some c1 := hk.cell 0
    have hSP : SideP w1 g 0 (iS im 1) (iE im 1) := ⟨c1, hc0, hk.cell 1, hk.lt, hC1⟩
    have HST : Hid _ := side_text w1.drew g 0 (iE im 1) (iS im 1) hSP hsz HJ.out.1 HJ.out.2
    have hkd : Blk w1.drew g 77 #[c1, .int .i64 (iE im 1 : Int), c2, .int .i64 (iE im 2 : Int), .int .i64 (mRate (rBody im 0) : Int), m0, m1, m2, pl] := hk
    have hbd : Below w.heap.size w w1.drew := hb1.drew
    clear hC1 hSP hk HJ
    go_upto_region 4 with fail
    go_region_law (first
      | (refine step_calls (args := #[.pointer (some ⟨g, 0, none⟩)]) rfl rfl enterSideText (by simp [Act.eval, Act.put]) HST.out ?_; rintro en w2 ⟨rfl, hb2⟩; refine ⟨_, rfl, ?_⟩; have hd4 : w2.cell? ⟨g, 4, none⟩ = some (.int .i64 (mRate (rBody im 0) : Int)) := (hkd.below hb2 hkd.lt).cell 4))
    all_goals go_wp2
    all_goals go_ret3
    all_goals exact ⟨.inl ⟨HRD.out, rfl⟩, hbd.trans (hb2.mono hbd.size)⟩
end Go.Proofs.Ytkebgnpifmcmaaa
