import Derived.Test.YtkebgnpifmcmaaaXZb
namespace Go.Proofs.Ytkebgnpifmcmaaa
open Go.RowKit

/-- The image of a text reads back. -/
theorem reads_img {t : List UInt8} {rate : Nat} {im : List UInt8} (h : IsImg t rate im) (hn : t.length ≤ 2000) (hr1 : 1 ≤ rate) (hr : rate ≤ 64) :
    Reads (bs im) ∧ backText (tx (iS (bs im) 1)) (iE (bs im) 1) = t ∧ mRate (rBody (bs im) 0) = rate := by
  obtain ⟨f, f2, F, F2, rfl⟩ := h
  have l1 := bwt_length F
  have l2 := bwt_length F2
  have b1 := bwt_back F
  have b2 := bwt_back F2
  have o1 := bwt_ok F
  have o2 := bwt_ok F2
  have e1 := (sa_end F).1
  have e2 := (sa_end F2).1
  rw [List.length_reverse] at l2 b2 o2 e2
  generalize hS1 : pre t f (t.length + 1) = L1 at *
  generalize hS2 : pre t.reverse f2 (t.length + 1) = L2 at *
  generalize endOf f (t.length + 1) = E1 at *
  generalize endOf f2 (t.length + 1) = E2 at *
  have hz1 : (bs L1).size = t.length := by rw [bs_size, l1]
  have hz2 : (bs L2).size = t.length := by rw [bs_size, l2]
  have hlen := bodyB_length (bs L1) E1 (bs L2) E2 rate f (by omega) (by omega)
  have hl : ∀ k, (bodyB (bs L1) E1 (bs L2) E2 rate f k).length < 65536 := fun k => by have := (hlen k).1; omega
  have hp := rPart_img _ hl
  have hs4 := (rSt_img _ hl).2.2.2.2
  have h0 := (hp 0 (by omega)).2
  have h1 := (hp 1 (by omega)).2
  have h2 := (hp 2 (by omega)).2
  have hm := measures_back (bs L1).size rate (by omega) hr1 hr
  have hA := side_back (bs L1) E1 (by omega)
  have hB := side_back (bs L2) E2 (by omega)
  generalize hIM : bs (imgB (bodyB (bs L1) E1 (bs L2) E2 rate f) 4) = IM at *
  rw [show bodyB (bs L1) E1 (bs L2) E2 rate f 0 = num2 (bs L1).size ++ [UInt8.ofNat rate] from rfl] at h0
  rw [show bodyB (bs L1) E1 (bs L2) E2 rate f 1 = sideB (bs L1) E1 from rfl] at h1
  rw [show bodyB (bs L1) E1 (bs L2) E2 rate f 2 = sideB (bs L2) E2 from rfl] at h2
  have hms : mSize (rBody IM 0) = (bs L1).size := by rw [h0]; exact hm.2.1
  have hmr : mRate (rBody IM 0) = rate := by rw [h0]; exact hm.2.2
  have hi1 : iS IM 1 = bs L1 := by unfold iS; rw [hms, h1]; exact hA.2.1
  have hi2 : iS IM 2 = bs L2 := by unfold iS; rw [hms, h2, hz1, ← hz2]; exact hB.2.1
  have hj1 : iE IM 1 = E1 := by unfold iE; rw [h1]; exact hA.2.2
  have hj2 : iE IM 2 = E2 := by unfold iE; rw [h2]; exact hB.2.2
  refine ⟨⟨⟨fun j hj => (hp j hj).1, by rw [hs4], by rw [h0]; exact hm.1, by rw [hms, h1]; exact hA.1, by rw [hms, h2, hz1, ← hz2]; exact hB.1⟩, ?_, ?_⟩, ?_, hmr⟩
  · unfold Joins
    rw [hi1, hi2, hj1, hj2, tx_bs, tx_bs, b1, b2]
    exact ⟨⟨by omega, o1⟩, ⟨by omega, o2⟩, rfl⟩
  · unfold Same
    rw [hi1, hi2, hj1, hj2, hmr, tx_bs, b1]
    intro f' F'
    rw [← hIM, bodyB_congr (bs L1) E1 (bs L2) E2 rate (f := f') (g := f) (fun i hi => F'.unique F i (by omega))]
  · rw [hi1, hj1, tx_bs, b1]

theorem reads_empty : ¬ Reads (bs []) := by
  intro h
  have h1 := h.1.1 1 (by omega)
  revert h1
  decide
end Go.Proofs.Ytkebgnpifmcmaaa
