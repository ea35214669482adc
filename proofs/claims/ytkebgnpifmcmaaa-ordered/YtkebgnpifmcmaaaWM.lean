import Derived.Test.YtkebgnpifmcmaaaWL
namespace Go.Proofs.Ytkebgnpifmcmaaa
open Go.RowKit

set_option maxRecDepth 10000 in
set_option maxHeartbeats 400000 in
theorem sorting_any (w : World) : Calls Try.prog 20 #[] w fun e w' => e = .returned (.bool true) ∧ Below w.heap.size w w' := by
  have hsz : (bs aba).size = 3 := rfl
  have htx : tx (bs aba) = aba := tx_bs aba
  have HT : Hid (tx (bs aba) = aba) := htx
  clear htx hsz
  go_enter Try.func20, Try.ntmps20
  go_wp2_with fail
  refine (suffixes_ok (bs aba) _ (by decide)).mono ?_
  rintro e w1 ⟨g, cap, f, rfl, hg, _, _, hr, hb1, hsa⟩
  rw [HT.out] at hsa
  have hu := hsa.unique aba_sa
  have h0 := hr.cell (j := 0) (by decide)
  have h1 := hr.cell (j := 1) (by decide)
  have h2 := hr.cell (j := 2) (by decide)
  have h3 := hr.cell (j := 3) (by decide)
  rw [IN_at] at h0 h1 h2 h3
  rw [hu 0 (by decide)] at h0
  rw [hu 1 (by decide)] at h1
  rw [hu 2 (by decide)] at h2
  rw [hu 3 (by decide)] at h3
  have hlt := hr.lt
  clear hu hsa hr
  go_wp2_with fail
  refine (transform_ok (bs aba) _ (by decide)).mono ?_
  rintro e w2 ⟨f2, hsa, rfl, hb2⟩
  have c0 := (hb2.cell (p := ⟨g, 0, none⟩) hlt).trans h0
  have c1 := (hb2.cell (p := ⟨g, 1, none⟩) hlt).trans h1
  have c2 := (hb2.cell (p := ⟨g, 2, none⟩) hlt).trans h2
  have c3 := (hb2.cell (p := ⟨g, 3, none⟩) hlt).trans h3
  rw [HT.out] at hsa ⊢
  have hu := hsa.unique aba_sa
  have hp := pre_congr (t := aba) (f := f2) (g := abaSA) (k := 4) (fun j hj => hu j (by have : aba.length = 3 := rfl; omega))
  have hbs4 : (bs aba).size + 1 = 4 := rfl
  rw [hbs4, hp.1, hp.2, aba_pre.1, aba_pre.2]
  have hlt2 : g < w2.heap.size := Nat.lt_of_lt_of_le hlt hb2.size
  have hb12 := hb1.trans (hb2.mono hb1.size)
  clear hp hu hsa h0 h1 h2 h3 hb1 hb2 hbs4
  go_wp2_with fail
  refine (restore_in (bs aba) 2 _ (by decide) (by decide)).mono ?_
  rintro e w3 ⟨⟨_, rfl⟩ | ⟨hno, _⟩, hb3⟩
  · have d0 := (hb3.cell (p := ⟨g, 0, none⟩) hlt2).trans c0
    have d1 := (hb3.cell (p := ⟨g, 1, none⟩) hlt2).trans c1
    have d2 := (hb3.cell (p := ⟨g, 2, none⟩) hlt2).trans c2
    have d3 := (hb3.cell (p := ⟨g, 3, none⟩) hlt2).trans c3
    rw [HT.out, aba_back]
    have hb123 := hb12.trans (hb3.mono hb12.size)
    clear c0 c1 c2 c3 hb12 hb3
    have e0 : (abaSA 0 : Int) = 3 := rfl
    have e1 : (abaSA 1 : Int) = 2 := rfl
    have e2 : (abaSA 2 : Int) = 0 := rfl
    have e3 : (abaSA 3 : Int) = 1 := rfl
    rw [e0] at d0
    rw [e1] at d1
    rw [e2] at d2
    rw [e3] at d3
    clear e0 e1 e2 e3
    have htl : (bs aba).toList = [97, 98, 97] := by rw [Lib.toList_data]; rfl
    go_wp2
    go_ret
    exact ⟨rfl, hb123⟩
  · rw [HT.out] at hno
    exact absurd aba_ok hno
end Go.Proofs.Ytkebgnpifmcmaaa
