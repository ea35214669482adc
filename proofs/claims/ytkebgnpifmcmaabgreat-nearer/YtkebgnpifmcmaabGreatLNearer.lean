import Derived.Test.YtkebgnpifmcmaabGreatHA
namespace Go.Proofs.YtkebgnpifmcmaabGreat
open Go.RowKit

set_option maxRecDepth 10000 in
set_option maxHeartbeats 4000000 in
theorem nearer_walk (a0 : ByteArray) (a1 : Int) (a2 : ByteArray) (a3 a4 a5 : Int) (w0 : a0.size ≤ maxLen) (w1 : (Lit.int .i64 a1).wf = true) (w2 : a2.size ≤ maxLen) (w3 : (Lit.int .i64 a3).wf = true) (w4 : (Lit.int .i64 a4).wf = true) (w5 : (Lit.int .i64 a5).wf = true) (w : World) :
    Calls Tryz.prog 5 #[.string a0, .int .i64 a1, .string a2, .int .i64 a3, .int .i64 a4, .int .i64 a5] w fun e w' => e = .returned (.bool true) ∧ Below w.heap.size w w' := by
  have HN : Hid _ := nearing_any w
  have HF : Hid (∀ w, Calls Tryz.prog 13 #[] w fun e w' => e = .returned (.bool true) ∧ Below w.heap.size w w') := finding_any
  have HSH : Hid (∀ w, Calls Tryz.prog 14 #[.string a0, .int .i64 200] w fun e w' => e = .returned (.string (cut a0 200)) ∧ w' = w) := fun w => short_cut a0 200 w (by decide) w0
  have hs := cut_le a0 200
  generalize cut a0 200 = s at *
  go_enter Tryz.func5, Tryz.ntmps5
  go_wp2_with fail
  refine Calls.mono HN.out ?_
  clear HN
  rintro en wz ⟨rfl, hb0⟩
  go_wp2_with fail
  refine Calls.mono (HF.out wz) ?_
  clear HF
  rintro en wa ⟨rfl, hb0'⟩
  have hb1 := hb0.trans (hb0'.mono hb0.size)
  clear hb0 hb0'
  go_wp2_with fail
  refine Calls.mono (HSH.out wa) ?_
  clear HSH
  rintro en wb ⟨rfl, rfl⟩
  have HIM : Hid _ := image_keep s a1 wb (by omega) w1
  go_wp2_with fail
  refine Calls.mono HIM.out ?_
  clear HIM
  rintro en wc ⟨im, hI, rfl, hb2⟩
  have hb3 := hb1.trans (hb2.mono hb1.size)
  clear hb1 hb2
  have HIMG : Hid (Img im s (1 + pickN a1 64)) := hI
  clear hI
  have HPC : Hid _ := piece_any s a2 a3 a4 wc (by omega) w2 w3 w4
  go_wp2_with fail
  refine Calls.mono HPC.out ?_
  clear HPC
  rintro en wd ⟨p, hp, rfl, q, rfl⟩
  have hb4 := below_drewN hb3 q
  clear hb3
  generalize wc.drewN q = We at *
  have hie := isEmpty_size p
  by_cases h0 : p.size = 0
  · rw [decide_eq_true h0] at hie
    clear h0 HIMG
    go_wp2
    go_ret
    exact ⟨rfl, hb4⟩
  · rw [decide_eq_false h0] at hie
    have h0' : 0 < p.size := by omega
    have HPK : Hid (∀ w, Calls Tryz.prog 17 #[.int .i64 a5, .int .i64 4] w fun e w' => e = .returned (.int .i64 (pickN a5 4 : Int)) ∧ w' = w) := fun w => pick_any a5 4 w w5 (by decide) (by decide)
    have hk4 := pickN_lt a5 (n := 4) (by decide)
    generalize pickN a5 4 = k at *
    have HW0 : Hid (∀ w, Calls Tryz.prog 18 #[.string im, .string p, .int .i64 0] w fun e w' => ∃ v, e = .returned (.tuple #[v, .int .i64 0]) ∧ Lst w' v (filt (stP (tx s) (tx p)) (s.size + 1)).length (II fun j => ((filt (stP (tx s) (tx p)) (s.size + 1)).getD j 0 : Int)) ∧ Below w.heap.size w w') := fun w => (wrong_img HIMG.out p 0 w h0' hp (by decide)).mono (fun e w' ⟨v, he, ho, hb⟩ => by
      rw [filt_congr (C := stP (tx s) (tx p)) (fun i hi => wrP_zero (tx s) (tx p) i (by rw [tx_length]; omega))] at ho
      exact ⟨v, he, ho.lst, hb⟩)
    have HW1 : Hid (∀ w, Calls Tryz.prog 18 #[.string im, .string p, .int .i64 (k : Int)] w fun e w' => ∃ v, e = .returned (.tuple #[v, .int .i64 0]) ∧ Lst w' v (filt (wrP (tx s) (tx p) k) (s.size + 1)).length (II fun j => ((filt (wrP (tx s) (tx p) k) (s.size + 1)).getD j 0 : Int)) ∧ Below w.heap.size w w') := fun w => (wrong_img HIMG.out p k w h0' hp (by omega)).mono (fun e w' ⟨v, he, ho, hb⟩ => ⟨v, he, ho.lst, hb⟩)
    have HW2 : Hid (∀ w, Calls Tryz.prog 18 #[.string im, .string p, .int .i64 ((k : Int) + 1)] w fun e w' => ∃ v, e = .returned (.tuple #[v, .int .i64 0]) ∧ Lst w' v (filt (wrP (tx s) (tx p) (k + 1)) (s.size + 1)).length (II fun j => ((filt (wrP (tx s) (tx p) (k + 1)) (s.size + 1)).getD j 0 : Int)) ∧ Below w.heap.size w w') := fun w => by
      have := (wrong_img HIMG.out p (k + 1) w h0' hp (by omega)).mono (R' := fun e w' => ∃ v, e = .returned (.tuple #[v, .int .i64 0]) ∧ Lst w' v (filt (wrP (tx s) (tx p) (k + 1)) (s.size + 1)).length (II fun j => ((filt (wrP (tx s) (tx p) (k + 1)) (s.size + 1)).getD j 0 : Int)) ∧ Below w.heap.size w w') (fun e w' ⟨v, he, ho, hb⟩ => ⟨v, he, ho.lst, hb⟩)
      rw [Int.natCast_add] at this
      exact this
    have HLO : Hid (∀ w, Calls Tryz.prog 19 #[.string im, .string p] w fun e w' => ∃ v, e = .returned (.tuple #[v, .int .i64 0]) ∧ Lst w' v (filt (stP (tx s) (tx p)) (s.size + 1)).length (II fun j => ((filt (stP (tx s) (tx p)) (s.size + 1)).getD j 0 : Int)) ∧ Below w.heap.size w w') := fun w => locate_img HIMG.out p w h0' hp
    have HED : Hid (k < p.size → ∀ w, Calls Tryz.prog 22 #[.string im, .string p, .int .i64 (k : Int)] w fun e w' => ∃ v, e = .returned (.tuple #[v, .int .i64 0]) ∧ Lst w' v (filt (neB (tx s) (tx p) k) (s.size + 1)).length (II fun j => ((filt (neB (tx s) (tx p) k) (s.size + 1)).getD j 0 : Int)) ∧ Below w.heap.size w w') := fun hkp w => (edits_img HIMG.out p k w hp (by omega) hkp).mono (fun e w' ⟨v, he, ho, hb⟩ => ⟨v, he, ho.lst, hb⟩)
    have HEB : Hid (p.size ≤ k → ∀ w, Calls Tryz.prog 22 #[.string im, .string p, .int .i64 (k : Int)] w fun e w' => e = .returned (.tuple #[.slice none 0 0, .int .i64 8]) ∧ Below w.heap.size w w') := fun hkp w => edits_bad HIMG.out p k w h0' hp hkp
    have HED2 : Hid (k + 1 < p.size → ∀ w, Calls Tryz.prog 22 #[.string im, .string p, .int .i64 ((k : Int) + 1)] w fun e w' => ∃ v, e = .returned (.tuple #[v, .int .i64 0]) ∧ Lst w' v (filt (neB (tx s) (tx p) (k + 1)) (s.size + 1)).length (II fun j => ((filt (neB (tx s) (tx p) (k + 1)) (s.size + 1)).getD j 0 : Int)) ∧ Below w.heap.size w w') := fun hkp w => by
      have := (edits_img HIMG.out p (k + 1) w hp (by omega) hkp).mono (R' := fun e w' => ∃ v, e = .returned (.tuple #[v, .int .i64 0]) ∧ Lst w' v (filt (neB (tx s) (tx p) (k + 1)) (s.size + 1)).length (II fun j => ((filt (neB (tx s) (tx p) (k + 1)) (s.size + 1)).getD j 0 : Int)) ∧ Below w.heap.size w w') (fun e w' ⟨v, he, ho, hb⟩ => ⟨v, he, ho.lst, hb⟩)
      rw [Int.natCast_add] at this
      exact this
    have HEB2 : Hid (p.size ≤ k + 1 → ∀ w, Calls Tryz.prog 22 #[.string im, .string p, .int .i64 ((k : Int) + 1)] w fun e w' => e = .returned (.tuple #[.slice none 0 0, .int .i64 8]) ∧ Below w.heap.size w w') := fun hkp w => by
      have := edits_bad HIMG.out p (k + 1) w h0' hp hkp
      rw [Int.natCast_add] at this
      exact this
    have HI12 : Hid _ := filt_within (B := wrP (tx s) (tx p) k) (C := wrP (tx s) (tx p) (k + 1)) (m := s.size + 1) (fun i _ h => wrP_mono h (Nat.le_succ k))
    have HI1E : Hid _ := filt_within (B := wrP (tx s) (tx p) k) (C := neB (tx s) (tx p) k) (m := s.size + 1) (fun i _ h => wrP_neB h)
    have HIEE : Hid _ := filt_within (B := neB (tx s) (tx p) k) (C := neB (tx s) (tx p) (k + 1)) (m := s.size + 1) (fun i _ h => neB_mono h)
    have s0 := filt_small (stP (tx s) (tx p)) (s.size + 1) (by omega)
    have s1 := filt_small (wrP (tx s) (tx p) k) (s.size + 1) (by omega)
    have s2 := filt_small (wrP (tx s) (tx p) (k + 1)) (s.size + 1) (by omega)
    have s3 := filt_small (neB (tx s) (tx p) k) (s.size + 1) (by omega)
    have s4 := filt_small (neB (tx s) (tx p) (k + 1)) (s.size + 1) (by omega)
    clear HIMG h0
    generalize hF0 : (fun j => ((filt (stP (tx s) (tx p)) (s.size + 1)).getD j 0 : Int)) = F0 at *
    generalize (filt (stP (tx s) (tx p)) (s.size + 1)).length = M0 at *
    have hF1 : Hid (∀ i, i < (filt (wrP (tx s) (tx p) k) (s.size + 1)).length → ∃ j, j < (filt (wrP (tx s) (tx p) (k + 1)) (s.size + 1)).length ∧ (fun j => ((filt (wrP (tx s) (tx p) k) (s.size + 1)).getD j 0 : Int)) i = (fun j => ((filt (wrP (tx s) (tx p) (k + 1)) (s.size + 1)).getD j 0 : Int)) j) := HI12.out
    have hF2 : Hid (∀ i, i < (filt (wrP (tx s) (tx p) k) (s.size + 1)).length → ∃ j, j < (filt (neB (tx s) (tx p) k) (s.size + 1)).length ∧ (fun j => ((filt (wrP (tx s) (tx p) k) (s.size + 1)).getD j 0 : Int)) i = (fun j => ((filt (neB (tx s) (tx p) k) (s.size + 1)).getD j 0 : Int)) j) := HI1E.out
    have hF3 : Hid (∀ i, i < (filt (neB (tx s) (tx p) k) (s.size + 1)).length → ∃ j, j < (filt (neB (tx s) (tx p) (k + 1)) (s.size + 1)).length ∧ (fun j => ((filt (neB (tx s) (tx p) k) (s.size + 1)).getD j 0 : Int)) i = (fun j => ((filt (neB (tx s) (tx p) (k + 1)) (s.size + 1)).getD j 0 : Int)) j) := HIEE.out
    clear HI12 HI1E HIEE hF0
    generalize (fun j => ((filt (wrP (tx s) (tx p) k) (s.size + 1)).getD j 0 : Int)) = F1 at *
    generalize (filt (wrP (tx s) (tx p) k) (s.size + 1)).length = M1 at *
    generalize (fun j => ((filt (wrP (tx s) (tx p) (k + 1)) (s.size + 1)).getD j 0 : Int)) = F2 at *
    generalize (filt (wrP (tx s) (tx p) (k + 1)) (s.size + 1)).length = M2 at *
    generalize (fun j => ((filt (neB (tx s) (tx p) k) (s.size + 1)).getD j 0 : Int)) = F3 at *
    generalize (filt (neB (tx s) (tx p) k) (s.size + 1)).length = M3 at *
    generalize (fun j => ((filt (neB (tx s) (tx p) (k + 1)) (s.size + 1)).getD j 0 : Int)) = F4 at *
    generalize (filt (neB (tx s) (tx p) (k + 1)) (s.size + 1)).length = M4 at *
    go_wp2_with fail
    refine Calls.mono (HPK.out We) ?_
    clear HPK
    rintro en wf ⟨rfl, rfl⟩
    go_wp2_with fail
    refine Calls.mono (HW0.out wf) ?_
    clear HW0
    rintro en wg ⟨v0, rfl, ⟨o0, p0, rfl, l0'⟩, c5⟩
    have l0 : Lst wg (.slice o0 M0 p0) M0 (II F0) := ⟨o0, p0, rfl, l0'⟩
    have hb5 := hb4.trans (c5.mono hb4.size)
    clear l0' hb4 c5
    go_wp2_with fail
    refine Calls.mono (HW1.out wg) ?_
    clear HW1
    rintro en wh ⟨v1, rfl, ⟨o1, p1, rfl, l1'⟩, c6⟩
    have l1 : Lst wh (.slice o1 M1 p1) M1 (II F1) := ⟨o1, p1, rfl, l1'⟩
    have l0 := l0.below c6
    have hb6 := hb5.trans (c6.mono hb5.size)
    clear l1' hb5 c6
    go_wp2_with fail
    refine Calls.mono (HW2.out wh) ?_
    clear HW2
    rintro en wi ⟨v2, rfl, ⟨o2, p2, rfl, l2'⟩, c7⟩
    have l2 : Lst wi (.slice o2 M2 p2) M2 (II F2) := ⟨o2, p2, rfl, l2'⟩
    have l0 := l0.below c7
    have l1 := l1.below c7
    have hb7 := hb6.trans (c7.mono hb6.size)
    clear l2' hb6 c7
    go_wp2_with fail
    refine Calls.mono (HLO.out wi) ?_
    clear HLO
    rintro en wj ⟨v3, rfl, ⟨o3, p3, rfl, l3'⟩, c8⟩
    have l3 : Lst wj (.slice o3 M0 p3) M0 (II F0) := ⟨o3, p3, rfl, l3'⟩
    have l0 := l0.below c8
    have l1 := l1.below c8
    have l2 := l2.below c8
    have hb8 := hb7.trans (c8.mono hb7.size)
    clear l3' hb7 c8
    have HSM : Hid _ := keepSame_true (.slice o0 M0 p0) (.slice o3 M0 p3) M0 F0 wj s0 l0 l3
    clear l0 l3
    go_wp2_with fail
    refine Calls.mono HSM.out ?_
    clear HSM
    rintro en wk ⟨rfl, q, rfl⟩
    have hb9 := below_drewN hb8 q
    have c9 : Below wj.heap.size wj (wj.drewN q) := below_drewN (Below.refl _ _) q
    have l1 := l1.below c9
    have l2 := l2.below c9
    clear hb8 c9
    generalize wj.drewN q = Wk at *
    have HWI : Hid _ := within_true (.slice o1 M1 p1) (.slice o2 M2 p2) M1 M2 F1 F2 Wk s1 s2 l1 l2 hF1.out
    clear l2
    go_wp2_with fail
    refine Calls.mono HWI.out ?_
    clear HWI
    rintro en wl ⟨rfl, c10⟩
    have l1 := l1.below c10
    have hb10 := hb9.trans (c10.mono hb9.size)
    clear hb9 c10
    by_cases hkp : p.size ≤ k
    · have HE : Hid _ := HEB.out hkp wl
      clear HEB HED HED2 HEB2 l1
      go_wp2_with fail
      refine Calls.mono HE.out ?_
      clear HE
      rintro en wm ⟨rfl, c11⟩
      have hb11 := hb10.trans (c11.mono hb10.size)
      go_wp2
      go_ret
      exact ⟨rfl, hb11⟩
    · have HE : Hid _ := HED.out (by omega) wl
      clear HEB HED
      go_wp2_with fail
      refine Calls.mono HE.out ?_
      clear HE
      rintro en wm ⟨v5, rfl, ⟨o5, p5, rfl, l5'⟩, c11⟩
      have l5 : Lst wm (.slice o5 M3 p5) M3 (II F3) := ⟨o5, p5, rfl, l5'⟩
      have l1 := l1.below c11
      have hb11 := hb10.trans (c11.mono hb10.size)
      clear l5' hb10 c11
      have HWI : Hid _ := within_true (.slice o1 M1 p1) (.slice o5 M3 p5) M1 M3 F1 F3 wm s1 s3 l1 l5 hF2.out
      clear l1
      go_wp2_with fail
      refine Calls.mono HWI.out ?_
      clear HWI
      rintro en wn ⟨rfl, c12⟩
      have l5 := l5.below c12
      have hb12 := hb11.trans (c12.mono hb11.size)
      clear hb11 c12
      by_cases hkp2 : p.size ≤ k + 1
      · have HE : Hid _ := HEB2.out hkp2 wn
        have hkI : (p.size : Int) ≤ (k : Int) + 1 := by omega
        clear HED2 HEB2 l5
        go_wp2_with fail
        refine Calls.mono HE.out ?_
        clear HE
        rintro en wo ⟨rfl, c13⟩
        have hb13 := hb12.trans (c13.mono hb12.size)
        go_wp2
        go_ret
        exact ⟨rfl, hb13⟩
      · have HE : Hid _ := HED2.out (by omega) wn
        have hkI : ¬ (p.size : Int) ≤ (k : Int) + 1 := by omega
        clear HED2 HEB2
        go_wp2_with fail
        refine Calls.mono HE.out ?_
        clear HE
        rintro en wo ⟨v6, rfl, ⟨o6, p6, rfl, l6'⟩, c13⟩
        have l6 : Lst wo (.slice o6 M4 p6) M4 (II F4) := ⟨o6, p6, rfl, l6'⟩
        have l5 := l5.below c13
        have hb13 := hb12.trans (c13.mono hb12.size)
        clear l6' hb12 c13
        have HWI : Hid _ := within_true (.slice o5 M3 p5) (.slice o6 M4 p6) M3 M4 F3 F4 wo s3 s4 l5 l6 hF3.out
        clear l5 l6
        go_wp2_with fail
        refine Calls.mono HWI.out ?_
        clear HWI
        rintro en wp ⟨rfl, c14⟩
        have hb14 := hb13.trans (c14.mono hb13.size)
        go_wp2
        go_ret
        exact ⟨rfl, hb14⟩
end Go.Proofs.YtkebgnpifmcmaabGreat
