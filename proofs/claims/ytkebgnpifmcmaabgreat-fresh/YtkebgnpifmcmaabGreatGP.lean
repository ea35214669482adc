import Derived.Test.YtkebgnpifmcmaabGreatGO
import Derived.Test.YtkebgnpifmcmaabGreatGI
namespace Go.Proofs.YtkebgnpifmcmaabGreat
open Go.RowKit

theorem isEmpty_size (p : ByteArray) : p.toList.isEmpty = decide (p.size = 0) := by
  rw [Lib.toList_data]
  have hl : p.data.toList.length = p.size := by simp
  by_cases h : p.size = 0
  · rw [decide_eq_true h, List.isEmpty_iff]
    exact List.eq_nil_of_length_eq_zero (by omega)
  · rw [decide_eq_false h, List.isEmpty_eq_false_iff]
    intro e
    rw [e] at hl
    exact h hl.symm

/-- The error of a pattern. -/
def patE (p : ByteArray) : Int := if p.size = 0 then 6 else if 30 < p.size then 7 else 0

def OpenRes (im p : ByteArray) (w : World) (e : Ending) (w' : World) : Prop :=
  ((¬ Reads im ∧ e = .returned (.tuple #[.pointer none, .int .i64 4])) ∨
   (Reads im ∧ ¬ (0 < p.size ∧ p.size ≤ 30) ∧ e = .returned (.tuple #[.pointer none, .int .i64 (patE p)]) ∧ (patE p = 6 ∨ patE p = 7)) ∨
   (Reads im ∧ (0 < p.size ∧ p.size ≤ 30) ∧ patE p = 0 ∧ ∃ g f f2, e = .returned (.tuple #[.pointer (some ⟨g, 0, none⟩), .int .i64 0]) ∧ IxT w' g (imT im) (imR im) f f2)) ∧ Below w.heap.size w w'

set_option maxRecDepth 10000 in
set_option maxHeartbeats 1000000 in
theorem opened_any (im p : ByteArray) (w : World) (hp : p.size ≤ maxLen) : Calls Tryz.prog 36 #[.string im, .string p] w (OpenRes im p w) := by
  unfold maxLen at hp
  have HX : Hid _ := index_txt im w
  have hie := isEmpty_size p
  go_enter Tryz.func36, Tryz.ntmps36
  go_wp2_with fail
  refine Calls.mono HX.out ?_
  clear HX
  rintro en w1 ⟨hres, hb⟩
  rcases hres with ⟨hR, g, f, f2, rfl, hIx⟩ | ⟨hR, rfl⟩
  case inr =>
    have HR : Hid (¬ Reads im) := hR
    clear hR
    go_wp2
    go_ret2
    exact ⟨.inl ⟨HR.out, rfl⟩, hb⟩
  case inl =>
    have HR : Hid (Reads im) := hR
    have HIX : Hid (IxT w1 g (imT im) (imR im) f f2) := hIx
    clear hR hIx
    by_cases h0 : p.size = 0
    · rw [decide_eq_true h0] at hie
      have HP : Hid (patE p = 6 ∧ ¬ (0 < p.size ∧ p.size ≤ 30)) := ⟨if_pos h0, by omega⟩
      clear h0
      go_wp2
      go_ret2
      exact ⟨.inr (.inl ⟨HR.out, HP.out.2, by rw [HP.out.1]; rfl, .inl HP.out.1⟩), hb⟩
    · rw [decide_eq_false h0] at hie
      by_cases h1 : 30 < p.size
      · have HP : Hid (patE p = 7 ∧ ¬ (0 < p.size ∧ p.size ≤ 30)) := ⟨by show patE p = 7; unfold patE; rw [if_neg h0, if_pos h1], by omega⟩
        go_wp2
        go_ret2
        exact ⟨.inr (.inl ⟨HR.out, HP.out.2, by rw [HP.out.1]; rfl, .inr HP.out.1⟩), hb⟩
      · have HP : Hid (patE p = 0 ∧ (0 < p.size ∧ p.size ≤ 30)) := ⟨by show patE p = 0; unfold patE; rw [if_neg h0, if_neg h1], by omega, by omega⟩
        have h1' : p.size ≤ 30 := by omega
        go_wp2
        go_ret2
        exact ⟨.inr (.inr ⟨HR.out, HP.out.2, HP.out.1, g, f, f2, rfl, HIX.out⟩), hb⟩

/-- What 'Count' and 'Locate' are asked for. -/
def CountRes (im p : ByteArray) (w : World) (e : Ending) (w' : World) : Prop :=
  ((¬ Reads im ∧ e = .returned (.tuple #[.int .i64 0, .int .i64 4])) ∨
   (Reads im ∧ ¬ (0 < p.size ∧ p.size ≤ 30) ∧ e = .returned (.tuple #[.int .i64 0, .int .i64 (patE p)])) ∨
   (Reads im ∧ (0 < p.size ∧ p.size ≤ 30) ∧ e = .returned (.tuple #[.int .i64 ((filt (stP (imT im) (tx p)) ((imT im).length + 1)).length : Int), .int .i64 0]))) ∧ Below w.heap.size w w'
def LocRes (im p : ByteArray) (w : World) (e : Ending) (w' : World) : Prop :=
  ((¬ Reads im ∧ e = .returned (.tuple #[.slice none 0 0, .int .i64 4])) ∨
   (Reads im ∧ ¬ (0 < p.size ∧ p.size ≤ 30) ∧ e = .returned (.tuple #[.slice none 0 0, .int .i64 (patE p)])) ∨
   (Reads im ∧ (0 < p.size ∧ p.size ≤ 30) ∧ ∃ v, e = .returned (.tuple #[v, .int .i64 0]) ∧ OwnL w' w.heap.size v (filt (stP (imT im) (tx p)) ((imT im).length + 1)))) ∧ Below w.heap.size w w'

set_option maxRecDepth 10000 in
set_option maxHeartbeats 1000000 in
theorem count_any (im p : ByteArray) (w : World) (hp : p.size ≤ maxLen) : Calls Tryz.prog 35 #[.string im, .string p] w (CountRes im p w) := by
  have HX : Hid _ := opened_any im p w hp
  go_enter Tryz.func35, Tryz.ntmps35
  go_wp2_with fail
  refine Calls.mono HX.out ?_
  clear HX
  rintro en w1 ⟨hres, hb⟩
  rcases hres with ⟨hR, rfl⟩ | ⟨hR, hsz, rfl, hpe⟩ | ⟨hR, hsz, hpe, g, f, f2, rfl, hIx⟩
  · have HR : Hid (¬ Reads im) := hR
    clear hR
    go_wp2
    go_ret2
    exact ⟨.inl ⟨HR.out, rfl⟩, hb⟩
  · have HR : Hid (Reads im ∧ ¬ (0 < p.size ∧ p.size ≤ 30)) := ⟨hR, hsz⟩
    clear hR hsz
    have hd : (patE p == 0) = false := by simp; omega
    have hd2 : (patE p != 0) = true := by simp; omega
    generalize hE : patE p = E at *
    have HE : Hid (patE p = E) := hE
    clear hE
    rcases hpe with rfl | rfl
    all_goals go_wp2
    all_goals go_ret2
    all_goals exact ⟨.inr (.inl ⟨HR.out.1, HR.out.2, by rw [HE.out]; rfl⟩), hb⟩
  · have HR : Hid (Reads im ∧ (0 < p.size ∧ p.size ≤ 30)) := ⟨hR, hsz⟩
    have HIN : Hid _ := interval_any hIx.side p (by omega)
    have hn := hIx.2.2.1
    have hh := HI_le (imT im) (tx p)
    have hll := LO_le (imT im) (tx p)
    have HV : Hid ((HI (imT im) (tx p) : Int) - (LO (imT im) (tx p) : Int) = ((filt (stP (imT im) (tx p)) ((imT im).length + 1)).length : Int)) := by
      show _ = _
      rw [filt_length, HI_eq, NS]; omega
    clear hR hsz hIx hpe
    go_wp2_with fail
    refine Calls.mono HIN.out ?_
    clear HIN
    rintro en w2 ⟨rfl, hb2⟩
    have hb3 := hb.trans (hb2.mono hb.size)
    clear hb hb2
    generalize HI (imT im) (tx p) = U at *
    generalize LO (imT im) (tx p) = L at *
    go_wp2
    go_ret2
    exact ⟨.inr (.inr ⟨HR.out.1, HR.out.2, by rw [← HV.out]; simp⟩), hb3⟩

set_option maxRecDepth 10000 in
set_option maxHeartbeats 1000000 in
theorem locate_any (im p : ByteArray) (w : World) (hp : p.size ≤ maxLen) : Calls Tryz.prog 19 #[.string im, .string p] w (LocRes im p w) := by
  have HX : Hid _ := opened_any im p w hp
  go_enter Tryz.func19, Tryz.ntmps19
  go_wp2_with fail
  refine Calls.mono HX.out ?_
  clear HX
  rintro en w1 ⟨hres, hb⟩
  rcases hres with ⟨hR, rfl⟩ | ⟨hR, hsz, rfl, hpe⟩ | ⟨hR, hsz, hpe, g, f, f2, rfl, hIx⟩
  · have HR : Hid (¬ Reads im) := hR
    clear hR
    go_wp2
    go_ret2
    exact ⟨.inl ⟨HR.out, rfl⟩, hb⟩
  · have HR : Hid (Reads im ∧ ¬ (0 < p.size ∧ p.size ≤ 30)) := ⟨hR, hsz⟩
    clear hR hsz
    generalize hE : patE p = E at *
    have HE : Hid (patE p = E) := hE
    clear hE
    rcases hpe with rfl | rfl
    all_goals go_wp2
    all_goals go_ret2
    all_goals exact ⟨.inr (.inl ⟨HR.out.1, HR.out.2, by rw [HE.out]; rfl⟩), hb⟩
  · have HR : Hid (Reads im ∧ (0 < p.size ∧ p.size ≤ 30)) := ⟨hR, hsz⟩
    have HIN : Hid _ := interval_any hIx.side p (by omega)
    have HPL : Hid (∀ w', Below w1.heap.size w1 w' → Calls Tryz.prog 38 #[.pointer (some ⟨g, 0, none⟩), .int .i64 (LO (imT im) (tx p) : Int), .int .i64 (HI (imT im) (tx p) : Int)] w' fun e w2 => ∃ v, e = .returned v ∧ OwnL w2 w'.heap.size v (filt (stP (imT im) (tx p)) ((imT im).length + 1)) ∧ Below w'.heap.size w' w2) := fun w' hb => places_in (hIx.below hb) (tx p)
    clear hR hsz hIx hpe
    go_wp2_with fail
    refine Calls.mono HIN.out ?_
    clear HIN
    rintro en w2 ⟨rfl, hb2⟩
    have HP2 : Hid _ := HPL.out w2 hb2
    have hb3 := hb.trans (hb2.mono hb.size)
    clear hb hb2 HPL
    go_wp2_with fail
    refine Calls.mono HP2.out ?_
    clear HP2
    rintro en w3 ⟨v, rfl, hown, hb4⟩
    obtain ⟨ao, cp, rfl, _⟩ := OwnL.shape hown
    have HO : Hid (OwnL w3 w.heap.size (.slice ao (filt (stP (imT im) (tx p)) ((imT im).length + 1)).length cp) (filt (stP (imT im) (tx p)) ((imT im).length + 1))) := own_base hown hb3.size
    have hb5 := hb3.trans (hb4.mono hb3.size)
    clear hown hb3 hb4
    generalize (filt (stP (imT im) (tx p)) ((imT im).length + 1)).length = M at *
    go_wp2
    go_ret2
    exact ⟨.inr (.inr ⟨HR.out.1, HR.out.2, _, rfl, HO.out⟩), hb5⟩
end Go.Proofs.YtkebgnpifmcmaabGreat

namespace Go.Proofs.YtkebgnpifmcmaabGreat
open Go.RowKit

/-- How many of the first bytes of a pattern differ from what stands at a place. -/
def df (t P : List UInt8) (i : Nat) : Nat → Nat
  | 0 => 0
  | k + 1 => df t P i k + (if bN P k = bN t (i + k) then 0 else 1)
theorem df_le (t P : List UInt8) (i k : Nat) : df t P i k ≤ k := by
  induction k with
  | zero => exact Nat.le_refl _
  | succ k ih => simp only [df]; split <;> omega
theorem df_zero (t P : List UInt8) (i k : Nat) : df t P i k = 0 ↔ ∀ j, j < k → bN t (i + j) = bN P j := by
  induction k with
  | zero => exact ⟨fun _ j hj => by omega, fun _ => rfl⟩
  | succ k ih =>
    simp only [df]
    by_cases h : bN P k = bN t (i + k)
    · rw [if_pos h, Nat.add_zero, ih]
      constructor
      · intro hh j hj
        by_cases e : j = k
        · subst e; exact h.symm
        · exact hh j (by omega)
      · intro hh j hj; exact hh j (by omega)
    · rw [if_neg h]
      constructor
      · intro hh; omega
      · intro hh; exact absurd (hh k (by omega)).symm h

set_option maxRecDepth 10000 in
set_option maxHeartbeats 1000000 in
theorem wrongs_fit (s p : ByteArray) (i : Nat) (w : World) (hn : s.size ≤ 2000) (hp : p.size ≤ 30) (hi : i + p.size ≤ s.size) :
    Calls Tryz.prog 56 #[.string s, .string p, .int .i64 (i : Int)] w fun e w' => e = .returned (.int .i64 (df (tx s) (tx p) i p.size : Int)) ∧ ∃ q, w' = w.drewN q := by
  have d0 : ¬ (s.size : Int) < (i : Int) + (p.size : Int) := by omega
  have HBN : Hid (∀ k (h : k < p.size), bN (tx p) k = (p[k]).toNat) := fun k h => by unfold bN; rw [tx_getD p k h]
  have HBS : Hid (∀ k (h : k < s.size), bN (tx s) k = (s[k]).toNat) := fun k h => by unfold bN; rw [tx_getD s k h]
  go_enter Tryz.func56, Tryz.ntmps56
  go_wp2_with fail
  go_loopw [7, 8] (fun nv kv wr => ∃ k q : Nat, k ≤ p.size ∧ kv = .int .i64 (k : Int) ∧ nv = .int .i64 (df (tx s) (tx p) i k : Int) ∧ wr = w.drewN q) (fun _ kv _ => p.size - (intOf kv).toNat)
  case atStart => exact ⟨0, 0, Nat.zero_le _, rfl, rfl, rfl⟩
  case round =>
    obtain ⟨k, q, hk, rfl, rfl, rfl⟩ := hrel
    have HWQ : Hid (∀ m, (w.drewN q).drewN m = w.drewN (q + m)) := fun m => World.drewN_drewN _ _ _
    generalize hWq : w.drewN q = Wq at *
    have HW0 : Hid (w.drewN q = Wq) := hWq
    clear hWq
    by_cases hlt : k < p.size
    · have b1 := HBN.out k hlt
      have hdl := df_le (tx s) (tx p) i k
      obtain ⟨J, hJ⟩ : ∃ J, i + k = J := ⟨_, rfl⟩
      have HJ : Hid (i + k = J) := hJ
      have e1 : (i : Int) + (k : Int) = (J : Int) := by omega
      have hidx : J < s.size := by omega
      have b2 := HBS.out J hidx
      clear hJ
      clear HBN HBS
      by_cases hq : p[k] = s[J]
      · have HD : Hid (df (tx s) (tx p) i (k + 1) = df (tx s) (tx p) i k) := by
          show _ = _
          simp only [df]; rw [HJ.out, b1, b2, hq, if_pos rfl]; rfl
        have d1 : (((p[k]).toNat : Int) == ((s[J]).toNat : Int)) = true := by rw [hq]; simp
        have d2 : (((p[k]).toNat : Int) != ((s[J]).toNat : Int)) = false := by rw [hq]; simp
        clear b1 b2 hq
        go_upto_region 7 with fail
        go_quiet (fail)
        go_wp2
        go_roundw
        case rel => exact ⟨k + 1, _, by omega, by go_num, by rw [HD.out], HWQ.out _⟩
        case measure => simp [intOf]; omega
      · have hne : (p[k]).toNat ≠ (s[J]).toNat := fun e => hq (UInt8.toNat_inj.1 e)
        have HD : Hid (df (tx s) (tx p) i (k + 1) = df (tx s) (tx p) i k + 1) := by
          show _ = _
          simp only [df]; rw [HJ.out, b1, b2, if_neg hne]
        have d1 : (((p[k]).toNat : Int) == ((s[J]).toNat : Int)) = false := by simp; omega
        have d2 : (((p[k]).toNat : Int) != ((s[J]).toNat : Int)) = true := by simp; omega
        clear b1 b2 hq
        go_upto_region 7 with fail
        go_quiet (fail)
        go_wp2
        go_roundw
        case rel => exact ⟨k + 1, _, by omega, by go_num, by rw [HD.out]; go_num, HWQ.out _⟩
        case measure => simp [intOf]; omega
    · have hkn : k = p.size := by omega
      subst hkn
      clear HBN HBS
      go_wp2
      go_ret
      exact ⟨rfl, q, HW0.out.symm⟩
end Go.Proofs.YtkebgnpifmcmaabGreat

namespace Go.Proofs.YtkebgnpifmcmaabGreat
open Go.RowKit

theorem wrongs_no (s p : ByteArray) (i : Nat) (w : World) (hn : s.size ≤ 2000) (hp : p.size ≤ 30) (hi : i ≤ s.size) (hlt : s.size < i + p.size) :
    Calls Tryz.prog 56 #[.string s, .string p, .int .i64 (i : Int)] w fun e w' => e = .returned (.int .i64 (-1)) ∧ w' = w := by
  have d0 : (s.size : Int) < (i : Int) + (p.size : Int) := by omega
  go_enter Tryz.func56, Tryz.ntmps56
  go_wp2
  go_ret
  exact ⟨rfl, rfl⟩

theorem wrongs_any (s p : ByteArray) (i : Nat) (w : World) (hn : s.size ≤ 2000) (hp : p.size ≤ 30) (hi : i ≤ s.size) :
    Calls Tryz.prog 56 #[.string s, .string p, .int .i64 (i : Int)] w fun e w' => ∃ x : Int, e = .returned (.int .i64 x) ∧ ((x = 0) ↔ stP (tx s) (tx p) i = true) ∧ (x = -1 ∨ 0 ≤ x) ∧ x ≤ 30 ∧ ∃ q, w' = w.drewN q := by
  have hst := stP_iff (tx s) (tx p) i (by rw [tx_length]; exact hi)
  rw [tx_length, tx_length] at hst
  by_cases h : i + p.size ≤ s.size
  · refine (wrongs_fit s p i w hn hp h).mono ?_
    rintro e w' ⟨rfl, q, rfl⟩
    have hle := df_le (tx s) (tx p) i p.size
    refine ⟨_, rfl, ?_, .inr (by omega), by omega, q, rfl⟩
    rw [hst, Int.natCast_eq_zero, df_zero]
    exact ⟨fun hh => ⟨h, hh⟩, fun hh => hh.2⟩
  · refine (wrongs_no s p i w hn hp hi (by omega)).mono ?_
    rintro e w' ⟨rfl, rfl⟩
    refine ⟨_, rfl, ?_, .inl rfl, by omega, 0, rfl⟩
    rw [hst]
    exact ⟨fun hh => by omega, fun hh => absurd hh.1 h⟩

theorem patterned_any (p : ByteArray) (w : World) (hp : p.size ≤ maxLen) : Calls Tryz.prog 55 #[.string p] w fun e w' => e = .returned (.int .i64 (patE p)) ∧ w' = w := by
  unfold maxLen at hp
  have hie := isEmpty_size p
  by_cases h0 : p.size = 0
  · rw [decide_eq_true h0] at hie
    have HP : Hid (patE p = 6) := if_pos h0
    rw [HP.out]
    clear h0 HP
    go_enter Tryz.func55, Tryz.ntmps55
    go_wp2
    go_ret
    exact ⟨rfl, rfl⟩
  · rw [decide_eq_false h0] at hie
    by_cases h1 : 30 < p.size
    · have HP : Hid (patE p = 7) := by show patE p = 7; unfold patE; rw [if_neg h0, if_pos h1]
      rw [HP.out]
      clear HP
      go_enter Tryz.func55, Tryz.ntmps55
      go_wp2
      go_ret
      exact ⟨rfl, rfl⟩
    · have HP : Hid (patE p = 0) := by show patE p = 0; unfold patE; rw [if_neg h0, if_neg h1]
      rw [HP.out]
      have h1' : p.size ≤ 30 := by omega
      clear HP
      go_enter Tryz.func55, Tryz.ntmps55
      go_wp2
      go_ret
      exact ⟨rfl, rfl⟩

theorem refWrong_bad (s p : ByteArray) (w : World) (hp : p.size ≤ maxLen) (h : ¬ (0 < p.size ∧ p.size ≤ 30)) :
    Calls Tryz.prog 31 #[.string s, .string p, .int .i64 0] w fun e w' => e = .returned (.tuple #[.slice none 0 0, .int .i64 (patE p)]) ∧ w' = w := by
  have hpe : patE p = 6 ∨ patE p = 7 := by
    unfold patE
    by_cases h0 : p.size = 0
    · rw [if_pos h0]; exact .inl rfl
    · rw [if_neg h0, if_pos (by omega)]; exact .inr rfl
  have HP : Hid _ := patterned_any p w hp
  clear h
  generalize patE p = E at *
  rcases hpe with rfl | rfl
  all_goals
    go_enter Tryz.func31, Tryz.ntmps31
    go_wp2_with fail
    refine Calls.mono HP.out ?_
    rintro en w1 ⟨rfl, rfl⟩
    go_wp2
    go_ret2
    exact ⟨rfl, rfl⟩

set_option maxRecDepth 10000 in
set_option maxHeartbeats 1000000 in
theorem refWrong_zero (s p : ByteArray) (w : World) (hn : s.size ≤ 2000) (h0 : 0 < p.size) (h1 : p.size ≤ 30) :
    Calls Tryz.prog 31 #[.string s, .string p, .int .i64 0] w fun e w' => ∃ v, e = .returned (.tuple #[v, .int .i64 0]) ∧ OwnL w' w.heap.size v (filt (stP (tx s) (tx p)) (s.size + 1)) ∧ Below w.heap.size w w' := by
  obtain ⟨i0, hi, hz0, hz1, hz2⟩ := info_parts Tryz.info3
  have HP : Hid (∀ w, Calls Tryz.prog 55 #[.string p] w fun e w' => e = .returned (.int .i64 0) ∧ w' = w) := fun w => by
    have := patterned_any p w (by unfold maxLen; omega)
    rw [show patE p = 0 from by unfold patE; rw [if_neg (by omega), if_neg (by omega)]] at this
    exact this
  have HWR : Hid (∀ (i : Nat) w, i ≤ s.size → Calls Tryz.prog 56 #[.string s, .string p, .int .i64 (i : Int)] w fun e w' => ∃ x : Int, e = .returned (.int .i64 x) ∧ ((x = 0) ↔ stP (tx s) (tx p) i = true) ∧ (x = -1 ∨ 0 ≤ x) ∧ x ≤ 30 ∧ ∃ q, w' = w.drewN q) := fun i w h => wrongs_any s p i w hn h1 h
  generalize hB : stP (tx s) (tx p) = B at *
  clear hB
  go_enter Tryz.func31, Tryz.ntmps31
  go_wp2_with fail
  refine Calls.mono (HP.out _) ?_
  clear HP
  rintro en w1 ⟨rfl, rfl⟩
  go_wp2_with fail
  go_loopw [9, 10, 11] (fun v i _ wr => ∃ k : Nat, k ≤ s.size + 1 ∧ i = .int .i64 (k : Int) ∧ wr.ownsRow w1.heap.size 3 1 v (filt B k).length (NL (filt B k)) ∧ Below w1.heap.size w1 wr) (fun _ i _ _ => s.size + 1 - (intOf i).toNat)
  case atStart => exact ⟨0, Nat.zero_le _, rfl, World.ownsRow_nil _ _ _ _, Below.refl _ _⟩
  case round =>
    obtain ⟨k, hk, rfl, hown, hb⟩ := hrel
    by_cases hlt : k < s.size + 1
    · have d1 : (k : Int) ≤ (s.size : Int) := by omega
      have HC : Hid _ := HWR.out k wr (by omega)
      clear HWR
      have hfl : (filt B k).length ≤ k := by rw [filt_length]; exact cntB_le _ _
      go_wp2_with fail
      refine Calls.mono HC.out ?_
      clear HC
      rintro en w2 ⟨x, rfl, hx, hx1, hx2, q, rfl⟩
      have hownq : (wr.drewN q).ownsRow w1.heap.size 3 1 u9 (filt B k).length (NL (filt B k)) := hown
      have hbq : Below w1.heap.size w1 (wr.drewN q) := below_drewN hb q
      clear hown hb
      generalize wr.drewN q = Wq at *
      cases hBk : B k with
      | false =>
        have HN : Hid (filt B (k + 1) = filt B k) := filt_no hBk
        rw [hBk] at hx
        have hne : x ≠ 0 := fun e => by have := hx.1 e; cases this
        clear hBk hx
        rcases hx1 with rfl | hx1
        · go_wp2
          go_roundw
          case rel => exact ⟨k + 1, by omega, by go_num, by rw [HN.out]; exact hownq, hbq⟩
          case measure => simp [intOf]; omega
        · have d2 : decide (0 ≤ x) = true := by simpa using hx1
          have d3 : decide (x ≤ 0) = false := by simp only [decide_eq_false_iff_not]; omega
          go_wp2
          go_roundw
          case rel => exact ⟨k + 1, by omega, by go_num, by rw [HN.out]; exact hownq, hbq⟩
          case measure => simp [intOf]; omega
      | true =>
        have HN : Hid (filt B (k + 1) = filt B k ++ [k]) := filt_yes hBk
        rw [hBk] at hx
        obtain rfl : x = 0 := hx.2 rfl
        clear hBk hx hx1 hx2
        have hsz := hbq.size
        go_wp2_with (at_builtin; refine wpList_append_own _ rfl (.tmp 40) (.tmp 42) 32 rfl w1.heap.size 3 i0 (.int .i64 0) 1 8 Tryz.underlying32 hi hz0 hz1 hz2 rfl (by decide) u9 (filt B k).length _ rfl (hownq.alloc _) ⟨Wq.heap.size, 0, none⟩ 1 1 [.int .i64 (k : Int)] rfl rfl (cell_one_new _ _ _) (by simp; rfl) (by unfold maxLen; omega) (by omega) (by simp; omega) ?_; intro v' w2 hown1 hgr1 _)
        have hb1 : Below w1.heap.size w1 w2 := (hbq.alloc hsz _).grown hgr1 (by simp; omega) (fun k hk => (hownq.lt k hk).1)
        rw [NL_snoc] at hown1
        have hown1' : w2.ownsRow w1.heap.size 3 1 v' (filt B (k + 1)).length (NL (filt B (k + 1))) := by
          rw [HN.out, List.length_append]; exact hown1
        go_roundw
        case rel => exact ⟨k + 1, by omega, by go_num, hown1', hb1⟩
        case measure => simp [intOf]; omega
    · have hkn : k = s.size + 1 := by omega
      subst hkn
      obtain ⟨ao, cp, rfl, _⟩ := OwnL.shape (l := filt B (s.size + 1)) hown
      go_wp2
      go_ret2
      exact ⟨_, rfl, hown, hb⟩
end Go.Proofs.YtkebgnpifmcmaabGreat
