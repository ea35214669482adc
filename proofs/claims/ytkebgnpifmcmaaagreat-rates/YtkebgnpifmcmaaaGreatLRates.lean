import Derived.Test.YtkebgnpifmcmaaaGreatGT
namespace Go.Proofs.YtkebgnpifmcmaaaGreat
open Go.RowKit

theorem bytes_beq (a b : ByteArray) : (a.toList == b.toList) = decide (a = b) := by
  by_cases h : a = b
  · rw [h, decide_eq_true rfl]; simp
  · rw [decide_eq_false h, beq_eq_false_iff_ne]
    exact fun e => h (toList_inj e)

/-- 'Locate', by an image of a text, at whatever rate. -/
theorem locate_lst (s p : ByteArray) (hp : p.size ≤ 30) : ∃ (E : Int) (M : Nat) (F : Nat → Int), M ≤ 3000 ∧ ∀ im rate w, s.size ≤ 2000 → Img im s rate → Calls Tryz.prog 13 #[.string im, .string p] w fun e w' => ∃ v, e = .returned (.tuple #[v, .int .i64 E]) ∧ Lst w' v M (II F) ∧ Below w.heap.size w w' := by
  by_cases h0 : p.size = 0
  · exact ⟨6, 0, fun _ => 0, by decide, fun im rate w _ hI => (locate_empty hI p w h0).mono (fun e w' hh => ⟨_, hh.1, ⟨none, 0, rfl, fun h => by omega⟩, hh.2⟩)⟩
  · by_cases hs : s.size ≤ 2000
    · refine ⟨0, (filt (stP (tx s) (tx p)) (s.size + 1)).length, fun j => ((filt (stP (tx s) (tx p)) (s.size + 1)).getD j 0 : Int), ?_, fun im rate w _ hI => locate_img hI p w (by omega) hp⟩
      rw [filt_length]; have := cntB_le (stP (tx s) (tx p)) (s.size + 1); omega
    · exact ⟨0, 0, fun _ => 0, by decide, fun im rate w h _ => absurd h hs⟩

set_option maxRecDepth 10000 in
set_option maxHeartbeats 4000000 in
theorem rates_walk (a0 a1 : ByteArray) (a2 a3 : Int) (a4 : ByteArray) (w0 : a0.size ≤ maxLen) (w1 : a1.size ≤ maxLen) (w2 : (Lit.int .i64 a2).wf = true) (w3 : (Lit.int .i64 a3).wf = true) (w4 : a4.size ≤ maxLen) (w : World) :
    Calls Tryz.prog 5 #[.string a0, .string a1, .int .i64 a2, .int .i64 a3, .string a4] w fun e w' => e = .returned (.bool true) ∧ Below w.heap.size w w' := by
  have HF : Hid _ := finding_any w
  have HS0 : Hid (∀ w, Calls Tryz.prog 9 #[.string a0, .int .i64 2000] w fun e w' => e = .returned (.string (cut a0 2000)) ∧ w' = w) := fun w => short_cut a0 2000 w (by decide) w0
  have HS1 : Hid (∀ w, Calls Tryz.prog 9 #[.string a1, .int .i64 2000] w fun e w' => e = .returned (.string (cut a1 2000)) ∧ w' = w) := fun w => short_cut a1 2000 w (by decide) w1
  have HS4 : Hid (∀ w, Calls Tryz.prog 9 #[.string a4, .int .i64 30] w fun e w' => e = .returned (.string (cut a4 30)) ∧ w' = w) := fun w => short_cut a4 30 w (by decide) w4
  have hs := cut_le a0 2000
  have hm := cut_le a1 2000
  have hp := cut_le a4 30
  generalize cut a0 2000 = s at *
  generalize cut a1 2000 = t at *
  generalize cut a4 30 = p at *
  obtain ⟨E, M, F, hM, hL⟩ := locate_lst s p hp
  have HLC : Hid _ := hL
  clear hL
  have hpa := pickN_lt a2 (n := 64) (by decide)
  have hpb := pickN_lt a3 (n := 64) (by decide)
  have HPA : Hid (∀ w, Calls Tryz.prog 16 #[.int .i64 a2, .int .i64 64] w fun e w' => e = .returned (.int .i64 (pickN a2 64 : Int)) ∧ w' = w) := fun w => pick_any a2 64 w w2 (by decide) (by decide)
  have HPB : Hid (∀ w, Calls Tryz.prog 16 #[.int .i64 a3, .int .i64 64] w fun e w' => e = .returned (.int .i64 (pickN a3 64 : Int)) ∧ w' = w) := fun w => pick_any a3 64 w w3 (by decide) (by decide)
  have HIX : Hid (∀ w, Calls Tryz.prog 10 #[.string s, .int .i64 a2] w fun e w' => ∃ im, Img im s (1 + pickN a2 64) ∧ e = .returned (.tuple #[.string im, .bool true]) ∧ Below w.heap.size w w') := fun w => image_keep s a2 w hs w2
  have HIY : Hid (∀ w, Calls Tryz.prog 10 #[.string s, .int .i64 a3] w fun e w' => ∃ im, Img im s (1 + pickN a3 64) ∧ e = .returned (.tuple #[.string im, .bool true]) ∧ Below w.heap.size w w') := fun w => image_keep s a3 w hs w3
  have HIZ : Hid (∀ w, Calls Tryz.prog 10 #[.string t, .int .i64 a2] w fun e w' => ∃ im, Img im t (1 + pickN a2 64) ∧ e = .returned (.tuple #[.string im, .bool true]) ∧ Below w.heap.size w w') := fun w => image_keep t a2 w hm w2
  generalize pickN a2 64 = A at *
  generalize pickN a3 64 = B at *
  clear w0 w1 w2 w3 w4 hp
  go_enter Tryz.func5, Tryz.ntmps5
  go_wp2_with fail
  refine Calls.mono HF.out ?_
  clear HF
  rintro en wa ⟨rfl, hb1⟩
  go_wp2_with fail
  refine Calls.mono (HS0.out _) ?_
  clear HS0
  rintro en wb ⟨rfl, rfl⟩
  go_wp2_with fail
  refine Calls.mono (HS1.out _) ?_
  clear HS1
  rintro en wc ⟨rfl, rfl⟩
  go_wp2_with fail
  refine Calls.mono (HIX.out _) ?_
  clear HIX
  rintro en wd ⟨x, hx, rfl, hb2⟩
  have hb3 := hb1.trans (hb2.mono hb1.size)
  clear hb1 hb2
  have HX : Hid (Img x s (1 + A)) := hx
  clear hx
  go_wp2_with fail
  refine Calls.mono (HIY.out _) ?_
  clear HIY
  rintro en we ⟨y, hy, rfl, hb4⟩
  have hb5 := hb3.trans (hb4.mono hb3.size)
  clear hb3 hb4
  have HY : Hid (Img y s (1 + B)) := hy
  clear hy
  go_wp2_with fail
  refine Calls.mono (HIZ.out _) ?_
  clear HIZ
  rintro en wf ⟨z, hz, rfl, hb6⟩
  have hb7 := hb5.trans (hb6.mono hb5.size)
  clear hb5 hb6
  have HZ : Hid (Img z t (1 + A)) := hz
  clear hz
  go_wp2_with fail
  refine Calls.mono (HS4.out _) ?_
  clear HS4
  rintro en wg ⟨rfl, rfl⟩
  have HL1 : Hid _ := HLC.out x (1 + A) wg hs HX.out
  have HL2 : Hid (∀ w, Calls Tryz.prog 13 #[.string y, .string p] w fun e w' => ∃ v, e = .returned (.tuple #[v, .int .i64 E]) ∧ Lst w' v M (II F) ∧ Below w.heap.size w w') := fun w => HLC.out y (1 + B) w hs HY.out
  clear HLC
  go_wp2_with fail
  refine Calls.mono HL1.out ?_
  clear HL1
  rintro en wh ⟨va, rfl, hla, hb8⟩
  obtain ⟨ao, ca, rfl, ha⟩ := hla
  have hla : Lst wh (.slice ao M ca) M (II F) := ⟨ao, ca, rfl, ha⟩
  have hb9 := hb7.trans (hb8.mono hb7.size)
  clear hb7 hb8 ha
  go_wp2_with fail
  refine Calls.mono (HL2.out wh) ?_
  clear HL2
  rintro en wi ⟨vb, rfl, hlb, hb10⟩
  obtain ⟨bo, cb, rfl, hb⟩ := hlb
  have hlb : Lst wi (.slice bo M cb) M (II F) := ⟨bo, cb, rfl, hb⟩
  have HSM : Hid _ := keepSame_true (.slice ao M ca) (.slice bo M cb) M F wi hM (hla.below hb10) hlb
  have hb11 := hb9.trans (hb10.mono hb9.size)
  clear hb9 hb10 hla hlb hb
  have e1 : (x.toList == y.toList) = ((A : Int) == (B : Int)) := by
    rw [bytes_beq]
    have := img_eq HX.out HY.out wi
    by_cases h : A = B
    · rw [decide_eq_true (this.2 ⟨rfl, by rw [h]⟩), h]; simp
    · rw [decide_eq_false (fun e => h (by have := (this.1 e).2; omega))]
      symm; simp; omega
  have e2 : (x.toList == z.toList) = (s.toList == t.toList) := by
    rw [bytes_beq, bytes_beq]
    have := img_eq HX.out HZ.out wi
    by_cases h : s = t
    · rw [decide_eq_true (this.2 ⟨h, rfl⟩), decide_eq_true h]
    · rw [decide_eq_false (fun e => h (this.1 e).1), decide_eq_false h]
  have e3 : (E != E) = false := by simp
  have e4 : (E == E) = true := by simp
  clear HX HY HZ
  generalize hq1 : (x.toList == y.toList) = Q1 at *
  generalize hq2 : (x.toList == z.toList) = Q2 at *
  have hq3 : ((A : Int) == (B : Int)) = Q1 := e1.symm
  have hq4 : (s.toList == t.toList) = Q2 := e2.symm
  clear e1 e2
  cases Q1 <;> cases Q2
  all_goals
    go_wp2_with fail
    refine Calls.mono (HPA.out _) ?_
    rintro en wj ⟨rfl, rfl⟩
    go_wp2_with fail
    refine Calls.mono (HPB.out _) ?_
    rintro en wk ⟨rfl, rfl⟩
    go_wp2_with fail
    refine Calls.mono HSM.out ?_
    rintro en wl ⟨rfl, q, rfl⟩
    have hb12 := below_drewN hb11 q
    go_wp2
    go_ret
    exact ⟨rfl, hb12⟩
end Go.Proofs.YtkebgnpifmcmaaaGreat
