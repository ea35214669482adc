import Derived.Test.YtkebgnpifmcmaabGreatGY
import Derived.Test.YtkebgnpifmcmaabGreatGT
namespace Go.Proofs.YtkebgnpifmcmaabGreat
open Go.RowKit

theorem wrong_img {im s : ByteArray} {rate : Nat} (hI : Img im s rate) (p : ByteArray) (k : Nat) (w : World) (h0 : 0 < p.size) (h1 : p.size ≤ 30) (hk : k ≤ 4) :
    Calls Tryz.prog 18 #[.string im, .string p, .int .i64 (k : Int)] w fun e w' => ∃ v, e = .returned (.tuple #[v, .int .i64 0]) ∧ OwnL w' w.heap.size v (filt (wrP (tx s) (tx p) k) (s.size + 1)) ∧ Below w.heap.size w w' :=
  (wrong_any im p (k : Int) w (by unfold maxLen; omega)).mono (fun e w' hh => by
    rcases hh with ⟨⟨h, _⟩ | ⟨_, h, _⟩ | ⟨_, _, h, _⟩ | ⟨_, _, _, v, he, ho⟩, hb⟩
    · exact absurd hI.1 h
    · exact absurd ⟨h0, h1⟩ h
    · exact absurd ⟨by omega, by omega⟩ h
    · rw [hI.2.1, tx_length, Int.toNat_natCast] at ho; exact ⟨v, he, ho, hb⟩)
theorem edits_img {im s : ByteArray} {rate : Nat} (hI : Img im s rate) (p : ByteArray) (k : Nat) (w : World) (h1 : p.size ≤ 30) (hk : k ≤ 4) (hkp : k < p.size) :
    Calls Tryz.prog 22 #[.string im, .string p, .int .i64 (k : Int)] w fun e w' => ∃ v, e = .returned (.tuple #[v, .int .i64 0]) ∧ OwnL w' w.heap.size v (filt (neB (tx s) (tx p) k) (s.size + 1)) ∧ Below w.heap.size w w' :=
  (edits_any im p (k : Int) w (by unfold maxLen; omega)).mono (fun e w' hh => by
    rcases hh with ⟨⟨h, _⟩ | ⟨_, h, _⟩ | ⟨_, _, h, _⟩ | ⟨_, _, _, v, he, ho⟩, hb⟩
    · exact absurd hI.1 h
    · exact absurd ⟨by omega, h1⟩ h
    · exact absurd ⟨by omega, by omega, by omega⟩ h
    · rw [hI.2.1, tx_length, Int.toNat_natCast] at ho; exact ⟨v, he, ho, hb⟩)
theorem edits_bad {im s : ByteArray} {rate : Nat} (hI : Img im s rate) (p : ByteArray) (k : Nat) (w : World) (h0 : 0 < p.size) (h1 : p.size ≤ 30) (hkp : p.size ≤ k) :
    Calls Tryz.prog 22 #[.string im, .string p, .int .i64 (k : Int)] w fun e w' => e = .returned (.tuple #[.slice none 0 0, .int .i64 8]) ∧ Below w.heap.size w w' :=
  (edits_any im p (k : Int) w (by unfold maxLen; omega)).mono (fun e w' hh => by
    rcases hh with ⟨⟨h, _⟩ | ⟨_, h, _⟩ | ⟨_, _, _, he⟩ | ⟨_, _, h, _⟩, hb⟩
    · exact absurd hI.1 h
    · exact absurd ⟨h0, h1⟩ h
    · exact ⟨he, hb⟩
    · omega)
theorem edits_pat {im s : ByteArray} {rate : Nat} (hI : Img im s rate) (p : ByteArray) (k : Int) (w : World) (hp : p.size ≤ maxLen) (h : ¬ (0 < p.size ∧ p.size ≤ 30)) :
    Calls Tryz.prog 22 #[.string im, .string p, .int .i64 k] w fun e w' => e = .returned (.tuple #[.slice none 0 0, .int .i64 (patE p)]) ∧ Below w.heap.size w w' :=
  (edits_any im p k w hp).mono (fun e w' hh => by
    rcases hh with ⟨⟨h', _⟩ | ⟨_, _, he⟩ | ⟨_, h', _⟩ | ⟨_, h', _⟩, hb⟩
    · exact absurd hI.1 h'
    · exact ⟨he, hb⟩
    · exact absurd h' h
    · exact absurd h' h)

def sACA : ByteArray := { data := #[97, 99, 97] }
def sAA : ByteArray := { data := #[97, 97] }
theorem aca_wrong : filt (wrP (tx sABA) (tx sACA) 1) (sABA.size + 1) = [0] := by decide
theorem aa_edits : filt (neB (tx sABA) (tx sAA) 1) (sABA.size + 1) = [0, 1, 2] := by
  have e1 : tx sABA = [97, 98, 97] := by decide
  have e2 : tx sAA = [97, 97] := by decide
  have e3 : sABA.size = 3 := by decide
  rw [e1, e2, e3]
  have n0 : neB [97, 98, 97] [97, 97] 1 0 = true := (neB_iff _ _ _ _).2 ⟨1, by decide, by decide, by simp [lev_cons, lev_nil, lev_nil_right]⟩
  have n1 : neB [97, 98, 97] [97, 97] 1 1 = true := (neB_iff _ _ _ _).2 ⟨3, by decide, by decide, by simp [lev_cons, lev_nil, lev_nil_right]⟩
  have n2 : neB [97, 98, 97] [97, 97] 1 2 = true := (neB_iff _ _ _ _).2 ⟨3, by decide, by decide, by simp [lev_cons, lev_nil, lev_nil_right]⟩
  have n3 : neB [97, 98, 97] [97, 97] 1 3 = false := by
    cases h : neB [97, 98, 97] [97, 97] 1 3 with
    | false => rfl
    | true =>
      obtain ⟨j, h1, h2, h3⟩ := (neB_iff _ _ _ _).1 h
      obtain rfl : j = 3 := by simp at h2; omega
      simp [lev_nil_right] at h3
  simp [filt, n0, n1, n2, n3]

set_option maxRecDepth 10000 in
set_option maxHeartbeats 1000000 in
theorem nearing_any (w : World) : Calls Tryz.prog 12 #[] w fun e w' => e = .returned (.bool true) ∧ Below w.heap.size w w' := by
  have HB : Hid _ := build_rd sABA 2 w (by decide) (by decide) (by decide)
  have HC : Hid (∀ im, Img im sABA 2 → ∀ w, Calls Tryz.prog 18 #[.string im, .string sACA, .int .i64 1] w fun e w' => ∃ g cap, e = .returned (.tuple #[.slice (some ⟨g, 0, none⟩) 1 cap, .int .i64 0]) ∧ w'.cell? ⟨g, 0, none⟩ = some (.int .i64 0) ∧ g < w'.heap.size ∧ Below w.heap.size w w') := fun im h w => by
    have := wrong_img h sACA 1 w (by decide) (by decide) (by decide)
    rw [aca_wrong] at this
    refine this.mono ?_
    rintro e w' ⟨v, rfl, ho, hb⟩
    obtain ⟨ao, cap, rfl, hh⟩ := ho.lst
    obtain ⟨g, rfl, hr⟩ := hh (by decide)
    exact ⟨g, cap, rfl, hr.cell (j := 0) (by decide), hr.lt, hb⟩
  have HL : Hid (∀ im, Img im sABA 2 → ∀ w, Calls Tryz.prog 22 #[.string im, .string sAA, .int .i64 1] w fun e w' => ∃ g cap, e = .returned (.tuple #[.slice (some ⟨g, 0, none⟩) 3 cap, .int .i64 0]) ∧ w'.cell? ⟨g, 2, none⟩ = some (.int .i64 2) ∧ Below w.heap.size w w') := fun im h w => by
    have := edits_img h sAA 1 w (by decide) (by decide) (by decide)
    rw [aa_edits] at this
    refine this.mono ?_
    rintro e w' ⟨v, rfl, ho, hb⟩
    obtain ⟨ao, cap, rfl, hh⟩ := ho.lst
    obtain ⟨g, rfl, hr⟩ := hh (by decide)
    exact ⟨g, cap, rfl, hr.cell (j := 2) (by decide), hb⟩
  unfold sABA sACA sAA at *
  go_enter Tryz.func12, Tryz.ntmps12
  go_wp2_with fail
  refine Calls.mono HB.out ?_
  clear HB
  rintro en w1 ⟨im, hI, rfl, hb1⟩
  have HC1 : Hid _ := HC.out im hI
  have HL1 : Hid _ := HL.out im hI
  clear HC HL hI
  go_wp2_with fail
  refine Calls.mono (HC1.out w1) ?_
  clear HC1
  rintro en w2 ⟨g1, cap1, rfl, hc0, hg1, hb2⟩
  have hb3 := hb1.trans (hb2.mono hb1.size)
  clear hb1 hb2
  go_wp2_with fail
  refine Calls.mono (HL1.out w2) ?_
  clear HL1
  rintro en w3 ⟨g, cap, rfl, hc1, hb4⟩
  have hc0' := cell_below hc0 hb4
  have hb5 := hb3.trans (hb4.mono hb3.size)
  clear hb3 hb4 hc0
  go_wp2
  go_ret
  exact ⟨rfl, hb5⟩

/-- Is a number among these? -/
def anyI (x : Int) (G : Nat → Int) : Nat → Bool
  | 0 => false
  | k + 1 => anyI x G k || (x == G k)
theorem anyI_true {x : Int} {G : Nat → Int} {m k : Nat} (hk : k < m) (h : x = G k) : anyI x G m = true := by
  induction m with
  | zero => omega
  | succ m ih =>
    rw [anyI, Bool.or_eq_true]
    by_cases e : k = m
    · subst e; exact .inr (by simp [h])
    · exact .inl (ih (by omega))

set_option maxRecDepth 10000 in
set_option maxHeartbeats 1000000 in
theorem within_true (va vb : Value) (n m : Nat) (F G : Nat → Int) (w : World) (hn : n ≤ 3000) (hm : m ≤ 3000) (ha : Lst w va n (II F)) (hb : Lst w vb m (II G)) (hin : ∀ i, i < n → ∃ k, k < m ∧ F i = G k) :
    Calls Tryz.prog 21 #[va, vb] w fun e w' => e = .returned (.bool true) ∧ Below w.heap.size w w' := by
  obtain ⟨ao, capa, rfl, ha⟩ := ha
  obtain ⟨bo, capb, rfl, hb⟩ := hb
  have HIN : Hid (∀ i, i < n → anyI (F i) G m = true) := fun i hi => by
    obtain ⟨k, hk, he⟩ := hin i hi
    exact anyI_true hk he
  clear hin
  go_enter Tryz.func21, Tryz.ntmps21
  go_wp2_with fail
  go_loopw [5, 6, 7] (fun iv _ _ wr => ∃ i : Nat, i ≤ n ∧ iv = .int .i64 (i : Int) ∧ Below w.heap.size w wr) (fun iv _ _ _ => n - (intOf iv).toNat)
  case atStart => exact ⟨0, Nat.zero_le _, rfl, Below.refl _ _⟩
  case round =>
    obtain ⟨i, hi, rfl, hbw⟩ := hrel
    by_cases hlt : i < n
    · obtain ⟨ga, rfl, hra⟩ := ha (by omega)
      have hti := HIN.out i hlt
      have HTI : Hid (anyI (F i) G m = true) := hti
      clear hti
      go_wp2_with fail
      go_loopw [7, 6] (fun kv fv wr => ∃ k : Nat, k ≤ m ∧ kv = .int .i64 (k : Int) ∧ fv = .bool (anyI (F i) G k) ∧ Below w.heap.size w wr) (fun kv _ _ => m - (intOf kv).toNat)
      case atStart => exact ⟨0, Nat.zero_le _, rfl, rfl, hbw⟩
      case round =>
        clear hbw
        obtain ⟨k, hk, rfl, rfl, hbw⟩ := hrel
        by_cases hlt2 : k < m
        · obtain ⟨gb, rfl, hrb⟩ := hb (by omega)
          have hca : wr.cell? ⟨ga, i, none⟩ = some (.int .i64 (F i)) := (hra.below hbw hra.lt).cell hlt
          have hcb : wr.cell? ⟨gb, k, none⟩ = some (.int .i64 (G k)) := (hrb.below hbw hrb.lt).cell hlt2
          have HA : Hid (anyI (F i) G (k + 1) = (anyI (F i) G k || (F i == G k))) := rfl
          cases hf : anyI (F i) G k with
          | true =>
            rw [hf] at HA
            go_wp2_with fail
            go_quiet (fail)
            go_wp2
            go_roundw
            case rel => exact ⟨k + 1, by omega, by go_num, by rw [HA.out]; rfl, below_drewN hbw _⟩
            case measure => simp [intOf]; omega
          | false =>
            rw [hf] at HA
            go_wp2_with fail
            go_quiet (fail)
            go_wp2
            go_roundw
            case rel => exact ⟨k + 1, by omega, by go_num, by rw [HA.out]; rfl, below_drewN hbw _⟩
            case measure => simp [intOf]; omega
        · obtain rfl : k = m := by omega
          rw [HTI.out]
          go_wp2
          go_roundw
          case rel => exact ⟨i + 1, by omega, by go_num, hbw⟩
          case measure => simp [intOf]; omega
    · go_wp2
      go_ret
      exact ⟨rfl, hbw⟩
end Go.Proofs.YtkebgnpifmcmaabGreat

namespace Go.Proofs.YtkebgnpifmcmaabGreat
open Go.RowKit

theorem filt_congr {B C : Nat → Bool} {m : Nat} (h : ∀ i, i < m → B i = C i) : filt B m = filt C m := by
  induction m with
  | zero => rfl
  | succ m ih => simp only [filt]; rw [ih (fun i hi => h i (by omega)), h m (by omega)]
theorem filt_within {B C : Nat → Bool} {m : Nat} (h : ∀ i, i < m → B i = true → C i = true) : ∀ i, i < (filt B m).length → ∃ k, k < (filt C m).length ∧ ((filt B m).getD i 0 : Int) = ((filt C m).getD k 0 : Int) := by
  intro i hi
  have h1 : (filt B m)[i] ∈ filt B m := List.getElem_mem hi
  have h2 := (mem_filt B m _).1 h1
  have h3 : (filt B m)[i] ∈ filt C m := (mem_filt C m _).2 ⟨h2.1, h _ h2.1 h2.2⟩
  obtain ⟨k, hk, he⟩ := List.getElem_of_mem h3
  refine ⟨k, hk, ?_⟩
  rw [List.getD_eq_getElem?_getD, List.getD_eq_getElem?_getD, List.getElem?_eq_getElem hi, List.getElem?_eq_getElem hk, he]
theorem filt_small (B : Nat → Bool) (m : Nat) (h : m ≤ 3000) : (filt B m).length ≤ 3000 := by
  rw [filt_length]; have := cntB_le B m; omega
theorem neB_mono {t P : List UInt8} {k i : Nat} (h : neB t P k i = true) : neB t P (k + 1) i = true := (neB_iff _ _ _ _).2 (nearE_mono ((neB_iff _ _ _ _).1 h) (Nat.le_succ k))
theorem wrP_neB {t P : List UInt8} {k i : Nat} (h : wrP t P k i = true) : neB t P k i = true := (neB_iff _ _ _ _).2 (wrP_near h)
end Go.Proofs.YtkebgnpifmcmaabGreat
