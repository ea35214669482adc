import Derived.Test.YtkebgnpifmcmaaaGreatGT
import Derived.Test.YtkebgnpifmcmaaaGreatGS
namespace Go.Proofs.YtkebgnpifmcmaaaGreat
open Go.RowKit

set_option maxRecDepth 10000 in
set_option maxHeartbeats 2000000 in
theorem seen_walk (a0 : ByteArray) (a1 : Int) (a2 : ByteArray) (a3 a4 : Int) (w0 : a0.size ≤ maxLen) (w1 : (Lit.int .i64 a1).wf = true) (w2 : a2.size ≤ maxLen) (w3 : (Lit.int .i64 a3).wf = true) (w4 : (Lit.int .i64 a4).wf = true) (w : World) :
    Calls Tryz.prog 4 #[.string a0, .int .i64 a1, .string a2, .int .i64 a3, .int .i64 a4] w fun e w' => e = .returned (.bool true) ∧ Below w.heap.size w w' := by
  have HF : Hid _ := finding_any w
  have HSH : Hid (∀ w, Calls Tryz.prog 9 #[.string a0, .int .i64 2000] w fun e w' => e = .returned (.string (cut a0 2000)) ∧ w' = w) := fun w => short_cut a0 2000 w (by decide) w0
  have hs := cut_le a0 2000
  generalize cut a0 2000 = s at *
  go_enter Tryz.func4, Tryz.ntmps4
  go_wp2_with fail
  refine Calls.mono HF.out ?_
  clear HF
  rintro en wa ⟨rfl, hb1⟩
  go_wp2_with fail
  refine Calls.mono (HSH.out wa) ?_
  clear HSH
  rintro en wb ⟨rfl, rfl⟩
  have HIM : Hid _ := image_keep s a1 wb hs w1
  go_wp2_with fail
  refine Calls.mono HIM.out ?_
  clear HIM
  rintro en wc ⟨im, hI, rfl, hb2⟩
  have hb3 := hb1.trans (hb2.mono hb1.size)
  clear hb1 hb2
  have HIMG : Hid (Img im s (1 + pickN a1 64)) := hI
  clear hI
  have HPC : Hid _ := piece_any s a2 a3 a4 wc hs w2 w3 w4
  go_wp2_with fail
  refine Calls.mono HPC.out ?_
  clear HPC
  rintro en wd ⟨p, hp, rfl, q, rfl⟩
  have hb4 := below_drewN hb3 q
  clear hb3
  generalize wc.drewN q = We at *
  have hie := isEmpty_size p
  by_cases h0 : p.size = 0
  · rw [decide_eq_true h0] at hie
    have HC : Hid (∀ w, Calls Tryz.prog 12 #[.string im, .string p] w fun e w' => e = .returned (.tuple #[.int .i64 0, .int .i64 6]) ∧ Below w.heap.size w w') := fun w => count_empty HIMG.out p w h0
    have HL : Hid (∀ w, Calls Tryz.prog 13 #[.string im, .string p] w fun e w' => e = .returned (.tuple #[.slice none 0 0, .int .i64 6]) ∧ Below w.heap.size w w') := fun w => locate_empty HIMG.out p w h0
    clear h0 HIMG
    go_wp2_with fail
    refine Calls.mono (HC.out We) ?_
    clear HC
    rintro en wf ⟨rfl, hb5⟩
    have hb6 := hb4.trans (hb5.mono hb4.size)
    clear hb4 hb5
    go_wp2_with fail
    refine Calls.mono (HL.out wf) ?_
    clear HL
    rintro en wg ⟨rfl, hb7⟩
    have hb8 := hb6.trans (hb7.mono hb6.size)
    go_wp2
    go_ret
    exact ⟨rfl, hb8⟩
  · rw [decide_eq_false h0] at hie
    have HC : Hid (∀ w, Calls Tryz.prog 12 #[.string im, .string p] w fun e w' => e = .returned (.tuple #[.int .i64 ((filt (stP (tx s) (tx p)) (s.size + 1)).length : Int), .int .i64 0]) ∧ Below w.heap.size w w') := fun w => count_img HIMG.out p w (by omega) hp
    have HL : Hid (∀ w, Calls Tryz.prog 13 #[.string im, .string p] w fun e w' => ∃ v, e = .returned (.tuple #[v, .int .i64 0]) ∧ Lst w' v (filt (stP (tx s) (tx p)) (s.size + 1)).length (II fun j => ((filt (stP (tx s) (tx p)) (s.size + 1)).getD j 0 : Int)) ∧ Below w.heap.size w w') := fun w => locate_img HIMG.out p w (by omega) hp
    have HPL : Hid (∀ w, Calls Tryz.prog 14 #[.string s, .string p] w fun e w' => ∃ v, e = .returned v ∧ Lst w' v (filt (stP (tx s) (tx p)) (s.size + 1)).length (II fun j => ((filt (stP (tx s) (tx p)) (s.size + 1)).getD j 0 : Int)) ∧ Below w.heap.size w w') := fun w => (places_any s p w hs (by omega)).mono (fun e w' ⟨v, he, ho, hb⟩ => ⟨v, he, ho.lst, hb⟩)
    have hfl : (filt (stP (tx s) (tx p)) (s.size + 1)).length ≤ 3000 := by rw [filt_length]; have := cntB_le (stP (tx s) (tx p)) (s.size + 1); omega
    clear h0 HIMG
    generalize (fun j => ((filt (stP (tx s) (tx p)) (s.size + 1)).getD j 0 : Int)) = F at *
    generalize (filt (stP (tx s) (tx p)) (s.size + 1)).length = M at *
    go_wp2_with fail
    refine Calls.mono (HC.out We) ?_
    clear HC
    rintro en wf ⟨rfl, hb5⟩
    have hb6 := hb4.trans (hb5.mono hb4.size)
    clear hb4 hb5
    go_wp2_with fail
    refine Calls.mono (HL.out wf) ?_
    clear HL
    rintro en wg ⟨va, rfl, hla, hb7⟩
    obtain ⟨ao, ca, rfl, ha⟩ := hla
    have hla : Lst wg (.slice ao M ca) M (II F) := ⟨ao, ca, rfl, ha⟩
    have hb8 := hb6.trans (hb7.mono hb6.size)
    clear hb6 hb7 ha
    go_wp2_with fail
    refine Calls.mono (HPL.out wg) ?_
    clear HPL
    rintro en wh ⟨vb, rfl, hlb, hb9⟩
    obtain ⟨bo, cb, rfl, hb⟩ := hlb
    have hlb : Lst wh (.slice bo M cb) M (II F) := ⟨bo, cb, rfl, hb⟩
    have HSM : Hid _ := keepSame_true (.slice ao M ca) (.slice bo M cb) M F wh hfl (hla.below hb9) hlb
    have hb10 := hb8.trans (hb9.mono hb8.size)
    clear hb8 hb9 hla hlb hb
    go_wp2_with fail
    refine Calls.mono HSM.out ?_
    clear HSM
    rintro en wi ⟨rfl, q, rfl⟩
    have hb11 := below_drewN hb10 q
    have q1 : ((M : Int) == (M : Int)) = true := by simp
    go_wp2
    go_ret
    exact ⟨rfl, hb11⟩
end Go.Proofs.YtkebgnpifmcmaaaGreat
