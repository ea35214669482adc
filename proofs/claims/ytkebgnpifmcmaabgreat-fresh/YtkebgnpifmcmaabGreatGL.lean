import Derived.Test.YtkebgnpifmcmaabGreatGH
import Derived.Test.YtkebgnpifmcmaabGreatGI
/- Patterns and their rows. Plain mathematics. -/
namespace Go.Proofs.YtkebgnpifmcmaabGreat

theorem cntB_or (f g : Nat → Bool) (m : Nat) (h : ∀ i, i < m → ¬ (f i = true ∧ g i = true)) : cntB (fun i => f i || g i) m = cntB f m + cntB g m := by
  induction m with
  | zero => rfl
  | succ m ih =>
    simp only [cntB]
    rw [ih (fun i hi => h i (by omega))]
    have := h m (by omega)
    cases hf : f m <;> cases hg : g m <;> simp_all <;> omega
theorem cntB_shift (f : Nat → Bool) (m : Nat) : cntB f (m + 1) = (f 0).toNat + cntB (fun i => f (i + 1)) m := by
  rw [Nat.add_comm m 1, cntB_add]
  simp only [cntB]
  rw [cntB_congr (g := fun i => f (i + 1)) (fun i _ => by rw [Nat.add_comm])]
  omega
theorem cntB_rev (f : Nat → Bool) (m : Nat) : cntB f m = cntB (fun j => f (m - 1 - j)) m := by
  induction m with
  | zero => rfl
  | succ m ih =>
    rw [cntB_shift (fun j => f (m + 1 - 1 - j))]
    simp only [cntB]
    rw [ih, cntB_congr (g := fun i => f (m + 1 - 1 - (i + 1))) (fun i hi => by congr 1; omega)]
    simp only [Nat.add_sub_cancel, Nat.sub_zero]
    omega
theorem cntB_false {f : Nat → Bool} {m : Nat} (h : ∀ i, i < m → f i = false) : cntB f m = 0 := by
  induction m with
  | zero => rfl
  | succ m ih => simp only [cntB]; rw [ih (fun i hi => h i (by omega)), h m (by omega)]; rfl
theorem cntB_cnt (f : Nat → Bool) (m : Nat) : cntB f m = cnt (fun i => (f i).toNat) 1 m := by
  induction m with
  | zero => rfl
  | succ m ih =>
                 simp only [cntB, cnt]; rw [ih]; congr 1
                 have := Bool.toNat_le (f m)
                 by_cases h : (f m).toNat = 1
                 · rw [if_pos h, h]
                 · rw [if_neg h]; omega
theorem cntB_full {f : Nat → Bool} {m : Nat} (h : ∀ i, i < m → f i = true) : cntB f m = m := by
  induction m with
  | zero => rfl
  | succ m ih => simp only [cntB]; rw [ih (fun i hi => h i (by omega)), h m (by omega)]; rfl
/-- A cut: what goes on downwards is what is below its count. -/
theorem cut_iff {B : Nat → Bool} : ∀ {N : Nat}, (∀ i j, i < j → j < N → B j = true → B i = true) → ∀ r, r < N → (r < cntB B N ↔ B r = true) := by
  intro N
  induction N with
  | zero => intro _ r hr; omega
  | succ N ih =>
    intro hd r hr
    cases hB : B N with
    | true =>
      have hall : ∀ i, i < N + 1 → B i = true := fun i hi => by
        rcases Nat.lt_or_ge i N with h | h
        · exact hd i N h (by omega) hB
        · rw [show i = N from by omega]; exact hB
      rw [cntB_full hall]
      exact ⟨fun _ => hall r hr, fun _ => hr⟩
    | false =>
      have hc : cntB B (N + 1) = cntB B N := by simp only [cntB]; rw [hB]; rfl
      rw [hc]
      rcases Nat.lt_or_ge r N with h | h
      · exact ih (fun i j h1 h2 => hd i j h1 (by omega)) r h
      · have : r = N := by omega
        subst this
        have := cntB_le B r
        rw [hB]
        exact ⟨fun h => by omega, fun h => by cases h⟩
theorem cntB_perm {t : List UInt8} {f : Nat → Nat} (F : IsSA t f) (A : Nat → Bool) : cntB (fun r => A (f r)) (t.length + 1) = cntB A (t.length + 1) := by
  rw [cntB_cnt, cntB_cnt]
  exact cnt_perm (t.length + 1) (fun i => (A i).toNat) f (fun i hi => by have := F.le i (by omega); omega) (fun i j hi hj h => F.inj (by omega) (by omega) h) 1

/-- A pattern stands at the head of bytes. -/
def pfx (P x : List UInt8) : Bool := P.isPrefixOf x
theorem bl_pfx : ∀ {P x : List UInt8}, bl x P = true → pfx P x = false := by
  intro P
  induction P with
  | nil => intro x h; rw [bl_nil_right] at h; cases h
  | cons c P ih =>
    intro x h
    cases x with
    | nil => rfl
    | cons b x =>
      rw [bl_cons_iff] at h
      show ((c == b) && P.isPrefixOf x) = false
      rcases h with h | ⟨_, h⟩
      · have : (c == b) = false := by
          simp only [beq_eq_false_iff_ne, ne_eq]; intro e; rw [e] at h; omega
        rw [this]; rfl
      · have h2 : List.isPrefixOf P x = false := ih h
        rw [h2, Bool.and_false]
theorem bl_of_pfx : ∀ {P x y : List UInt8}, bl x y = true → pfx P y = true → bl x P = true ∨ pfx P x = true := by
  intro P
  induction P with
  | nil => intro x y _ _; exact .inr rfl
  | cons c P ih =>
    intro x y h hp
    cases y with
    | nil => cases hp
    | cons b y =>
      have hp' : ((c == b) && P.isPrefixOf y) = true := hp
      rw [Bool.and_eq_true, beq_iff_eq] at hp'
      obtain ⟨rfl, hp2⟩ := hp'
      cases x with
      | nil => exact .inl rfl
      | cons a x =>
        rw [bl_cons_iff] at h
        rcases h with h | ⟨h1, h2⟩
        · exact .inl ((bl_cons_iff a c x P).2 (.inl h))
        · rcases ih h2 hp2 with h | h
          · exact .inl ((bl_cons_iff a c x P).2 (.inr ⟨h1, h⟩))
          · refine .inr ?_
            show ((c == a) && P.isPrefixOf x) = true
            have : a = c := (u8_eq_iff a c).2 h1
            subst this
            rw [show List.isPrefixOf P x = true from h]; simp

def ltP (t P : List UInt8) (i : Nat) : Bool := bl (t.drop i) P
def stP (t P : List UInt8) (i : Nat) : Bool := pfx P (t.drop i)
def LO (t P : List UInt8) : Nat := cntB (ltP t P) (t.length + 1)
def HI (t P : List UInt8) : Nat := cntB (fun i => ltP t P i || stP t P i) (t.length + 1)
def NS (t P : List UInt8) : Nat := cntB (stP t P) (t.length + 1)
theorem HI_eq (t P : List UInt8) : HI t P = LO t P + NS t P := cntB_or _ _ _ (fun i _ h => by
  have := bl_pfx h.1
  unfold stP at h
  rw [this] at h; cases h.2)
theorem HI_le (t P : List UInt8) : HI t P ≤ t.length + 1 := cntB_le _ _
theorem LO_le (t P : List UInt8) : LO t P ≤ HI t P := by rw [HI_eq]; omega

/-- The rows ahead of a pattern, and its own. -/
theorem row_lo {t : List UInt8} {f : Nat → Nat} (F : IsSA t f) (P : List UInt8) (r : Nat) (hr : r < t.length + 1) : r < LO t P ↔ ltP t P (f r) = true := by
  unfold LO
  rw [← cntB_perm F]
  refine cut_iff (B := fun r => ltP t P (f r)) (fun i j hij hj h => ?_) r hr
  exact bl_trans ((F.lt_iff (by omega) (by omega)).2 hij) h
theorem row_hi {t : List UInt8} {f : Nat → Nat} (F : IsSA t f) (P : List UInt8) (r : Nat) (hr : r < t.length + 1) : r < HI t P ↔ (ltP t P (f r) || stP t P (f r)) = true := by
  unfold HI
  rw [← cntB_perm F]
  refine cut_iff (B := fun r => ltP t P (f r) || stP t P (f r)) (fun i j hij hj h => ?_) r hr
  have hlt := (F.lt_iff (by omega) (by omega)).2 hij
  rw [Bool.or_eq_true] at h ⊢
  rcases h with h | h
  · exact .inl (bl_trans hlt h)
  · exact bl_of_pfx hlt h
/-- The rows of a pattern are those of the places at which it stands. -/
theorem row_in {t : List UInt8} {f : Nat → Nat} (F : IsSA t f) (P : List UInt8) (r : Nat) (hr : r < t.length + 1) : (LO t P ≤ r ∧ r < HI t P) ↔ stP t P (f r) = true := by
  rw [row_hi F P r hr, ← Nat.not_lt, row_lo F P r hr, Bool.or_eq_true]
  constructor
  · rintro ⟨h1, h2 | h2⟩
    · exact absurd h2 h1
    · exact h2
  · intro h
    refine ⟨fun h1 => ?_, .inr h⟩
    have := bl_pfx h1
    unfold stP at h
    rw [this] at h; cases h

/-- What stands ahead of the rows below a cut. -/
theorem cntI_cut {t : List UInt8} {f : Nat → Nat} (F : IsSA t f) (G : Nat → Bool) (K c : Nat) (hK : K ≤ t.length + 1) (hG : ∀ r, r < t.length + 1 → (r < K ↔ G (f r) = true)) :
    cntI (aheadV t f) (c : Int) K = cntB (fun i => (decide (bN t i = c)) && G (i + 1)) t.length ∧
    lessI (aheadV t f) (c : Int) K = cntB (fun j => (decide (j = 0) || decide (bN t (j - 1) < c)) && G j) (t.length + 1) := by
  have hc : ∀ m, cntI (aheadV t f) (c : Int) m = cntB (fun r => decide (aheadV t f r = (c : Int))) m ∧ lessI (aheadV t f) (c : Int) m = cntB (fun r => decide (aheadV t f r < (c : Int))) m := by
    intro m
    induction m with
    | zero => exact ⟨rfl, rfl⟩
    | succ m ih =>
      rw [cntI_succ, lessI_succ, ih.1, ih.2]
      simp only [cntB]
      exact ⟨by split <;> simp_all, by split <;> simp_all⟩
  have hav : ∀ r, r < t.length + 1 → aheadV t f r = if f r = 0 then -1 else (bN t (f r - 1) : Int) := fun r _ => rfl
  have hcut : ∀ B : Nat → Bool, cntB B K = cntB (fun r => G (f r) && B r) (t.length + 1) := fun B => by
    rw [← cntB_cut B hK]
    refine cntB_congr (fun i hi => ?_)
    have := hG i hi
    congr 1
    cases hg : G (f i) with
    | true => rw [decide_eq_true (this.2 hg)]
    | false => rw [decide_eq_false (fun h => by have := this.1 h; rw [hg] at this; cases this)]
  constructor
  · rw [(hc K).1, hcut]
    have h1 : cntB (fun r => G (f r) && decide (aheadV t f r = (c : Int))) (t.length + 1) = cntB (fun r => (fun j => G j && (decide (j ≠ 0) && decide (bN t (j - 1) = c))) (f r)) (t.length + 1) := cntB_congr (fun i hi => by
      show (G (f i) && _) = (G (f i) && _)
      congr 1
      rw [hav i hi]
      by_cases h0 : f i = 0
      · rw [if_pos h0, decide_eq_false (show ¬ (-1 : Int) = (c : Int) by omega)]; simp [h0]
      · rw [if_neg h0]; simp only [h0, ne_eq, not_false_eq_true, decide_true, Bool.true_and, Int.natCast_inj])
    rw [h1, cntB_perm F (fun j => G j && (decide (j ≠ 0) && decide (bN t (j - 1) = c))), cntB_shift]
    simp only [ne_eq, not_true_eq_false, decide_false, Bool.false_and, Bool.and_false, Bool.toNat_false, Nat.zero_add]
    refine cntB_congr (fun i _ => ?_)
    simp only [Nat.add_one_ne_zero, not_false_eq_true, decide_true, Bool.true_and, Nat.add_sub_cancel]
    exact Bool.and_comm _ _
  · rw [(hc K).2, hcut]
    have h1 : cntB (fun r => G (f r) && decide (aheadV t f r < (c : Int))) (t.length + 1) = cntB (fun r => (fun j => (decide (j = 0) || decide (bN t (j - 1) < c)) && G j) (f r)) (t.length + 1) := cntB_congr (fun i hi => by
      show (G (f i) && _) = (_ && G (f i))
      rw [Bool.and_comm]
      congr 1
      rw [hav i hi]
      by_cases h0 : f i = 0
      · rw [if_pos h0, decide_eq_true (show (-1 : Int) < (c : Int) by omega)]; simp [h0]
      · rw [if_neg h0]; simp only [h0, decide_false, Bool.false_or, Int.ofNat_lt])
    rw [h1, cntB_perm F (fun j => (decide (j = 0) || decide (bN t (j - 1) < c)) && G j)]

theorem drop_cons (t : List UInt8) (i : Nat) (h : i < t.length) : t.drop i = t.getD i 0 :: t.drop (i + 1) := by
  rw [List.drop_eq_getElem_cons h, List.getD_eq_getElem?_getD, List.getElem?_eq_getElem h]; rfl
theorem less_cntB (b : Nat → Nat) (c m : Nat) : less b c m = cntB (fun i => decide (b i < c)) m := by
  induction m with
  | zero => rfl
  | succ m ih => simp only [less, cntB]; rw [ih]; split <;> simp_all

/-- An interval moves as the pattern grows to the left. -/
theorem LO_cons {t : List UInt8} {f : Nat → Nat} (F : IsSA t f) (b : UInt8) (P : List UInt8) : LO t (b :: P) = mvL t f b.toNat (LO t P) := by
  unfold mvL firstOf
  rw [(cntI_cut F (ltP t P) (LO t P) b.toNat (Nat.le_trans (LO_le t P) (HI_le t P)) (row_lo F P)).1, less_cntB]
  have h1 : LO t (b :: P) = cntB (ltP t (b :: P)) t.length + 1 := by
    unfold LO; simp only [cntB]
    have : ltP t (b :: P) t.length = true := by unfold ltP; rw [List.drop_length]; rfl
    rw [this]; rfl
  have h2 : cntB (ltP t (b :: P)) t.length = cntB (fun i => decide (bN t i < b.toNat) || (decide (bN t i = b.toNat) && ltP t P (i + 1))) t.length := cntB_congr (fun i hi => by
    unfold ltP
    rw [drop_cons t i hi, bl_cons]
    congr 1
    congr 1
    show (t.getD i 0 == b) = decide ((t.getD i 0).toNat = b.toNat)
    have := u8_eq_iff (t.getD i 0) b
    by_cases h : t.getD i 0 = b
    · rw [h]; simp
    · rw [decide_eq_false (fun e => h (this.2 e))]; simpa using h)
  rw [h1, h2, cntB_or _ _ _ (fun i _ h => by
    simp only [Bool.and_eq_true, decide_eq_true_eq] at h; omega)]
  omega
theorem HI_cons {t : List UInt8} {f : Nat → Nat} (F : IsSA t f) (b : UInt8) (P : List UInt8) : HI t (b :: P) = mvL t f b.toNat (HI t P) := by
  unfold mvL firstOf
  rw [(cntI_cut F (fun i => ltP t P i || stP t P i) (HI t P) b.toNat (HI_le t P) (row_hi F P)).1, less_cntB]
  have h1 : HI t (b :: P) = cntB (fun i => ltP t (b :: P) i || stP t (b :: P) i) t.length + 1 := by
    unfold HI; simp only [cntB]
    have : ltP t (b :: P) t.length = true := by unfold ltP; rw [List.drop_length]; rfl
    rw [this]; rfl
  have h2 : cntB (fun i => ltP t (b :: P) i || stP t (b :: P) i) t.length = cntB (fun i => decide (bN t i < b.toNat) || (decide (bN t i = b.toNat) && (ltP t P (i + 1) || stP t P (i + 1)))) t.length := cntB_congr (fun i hi => by
    unfold ltP stP
    rw [drop_cons t i hi, bl_cons]
    have hq : pfx (b :: P) (t.getD i 0 :: t.drop (i + 1)) = (decide (bN t i = b.toNat) && pfx P (t.drop (i + 1))) := by
      show ((b == t.getD i 0) && P.isPrefixOf (t.drop (i + 1))) = (decide ((t.getD i 0).toNat = b.toNat) && P.isPrefixOf (t.drop (i + 1)))
      congr 1
      have := u8_eq_iff (t.getD i 0) b
      by_cases h : t.getD i 0 = b
      · rw [h]; simp
      · rw [decide_eq_false (fun e => h (this.2 e))]; simpa using fun e : b = t.getD i 0 => h e.symm
    have hq2 : (t.getD i 0 == b) = decide (bN t i = b.toNat) := by
      show (t.getD i 0 == b) = decide ((t.getD i 0).toNat = b.toNat)
      have := u8_eq_iff (t.getD i 0) b
      by_cases h : t.getD i 0 = b
      · rw [h]; simp
      · rw [decide_eq_false (fun e => h (this.2 e))]; simpa using h
    rw [hq, hq2, Bool.or_assoc, ← Bool.and_or_distrib_left]
    rfl)
  rw [h1, h2, cntB_or _ _ _ (fun i _ h => by
    simp only [Bool.and_eq_true, decide_eq_true_eq] at h; omega)]
  omega
theorem LO_nil (t : List UInt8) : LO t [] = 0 := cntB_false (fun _ _ => bl_nil_right _)
theorem HI_nil (t : List UInt8) : HI t [] = t.length + 1 := cntB_full (fun i _ => by
  show (ltP t [] i || stP t [] i) = true
  rw [show stP t [] i = true from rfl, Bool.or_true])
/-- How many of a pattern's rows have less ahead of them. -/
theorem mvP_eq {t : List UInt8} {f : Nat → Nat} (F : IsSA t f) (P : List UInt8) (c : Nat) : mvP t f c (LO t P) (HI t P) = cntB (fun j => (decide (j = 0) || decide (bN t (j - 1) < c)) && stP t P j) (t.length + 1) := by
  unfold mvP
  rw [(cntI_cut F (ltP t P) (LO t P) c (Nat.le_trans (LO_le t P) (HI_le t P)) (row_lo F P)).2, (cntI_cut F (fun i => ltP t P i || stP t P i) (HI t P) c (HI_le t P) (row_hi F P)).2]
  have h : cntB (fun j => (decide (j = 0) || decide (bN t (j - 1) < c)) && (ltP t P j || stP t P j)) (t.length + 1) = cntB (fun j => ((decide (j = 0) || decide (bN t (j - 1) < c)) && ltP t P j) || ((decide (j = 0) || decide (bN t (j - 1) < c)) && stP t P j)) (t.length + 1) := cntB_congr (fun i _ => Bool.and_or_distrib_left _ _ _)
  rw [h, cntB_or _ _ _ (fun i _ h => by
    simp only [Bool.and_eq_true] at h
    have := bl_pfx h.1.2
    have h2 := h.2.2
    unfold stP at h2
    rw [this] at h2; cases h2)]
  omega
end Go.Proofs.YtkebgnpifmcmaabGreat

/- Patterns and their rows, to both sides. Plain mathematics. -/
namespace Go.Proofs.YtkebgnpifmcmaabGreat

theorem stP_iff (t : List UInt8) : ∀ (P : List UInt8) (i : Nat), i ≤ t.length → (stP t P i = true ↔ i + P.length ≤ t.length ∧ ∀ k, k < P.length → bN t (i + k) = bN P k) := by
  intro P
  induction P with
  | nil => intro i hi; exact ⟨fun _ => ⟨by simpa using hi, fun k hk => by simp at hk⟩, fun _ => rfl⟩
  | cons c P ih =>
    intro i hi
    rcases Nat.lt_or_ge i t.length with h | h
    · have hq : stP t (c :: P) i = ((c == t.getD i 0) && stP t P (i + 1)) := by
        unfold stP
        rw [drop_cons t i h]; rfl
      rw [hq, Bool.and_eq_true, beq_iff_eq, ih (i + 1) (by omega)]
      constructor
      · rintro ⟨h1, h2, h3⟩
        refine ⟨by rw [List.length_cons]; omega, fun k hk => ?_⟩
        cases k with
        | zero => show (t.getD i 0).toNat = c.toNat; rw [← h1]
        | succ k =>
          rw [List.length_cons] at hk
          have := h3 k (by omega)
          rw [show i + (k + 1) = i + 1 + k from by omega, this]; rfl
      · rintro ⟨h1, h2⟩
        rw [List.length_cons] at h1
        refine ⟨?_, by omega, fun k hk => ?_⟩
        · have : (t.getD i 0).toNat = c.toNat := h2 0 (by simp)
          exact ((u8_eq_iff _ _).2 this).symm
        · have := h2 (k + 1) (by rw [List.length_cons]; omega)
          rw [show i + (k + 1) = i + 1 + k from by omega] at this
          rw [this]; rfl
    · have : i = t.length := by omega
      subst this
      have hq : stP t (c :: P) t.length = false := by unfold stP; rw [List.drop_length]; rfl
      rw [hq]
      exact ⟨fun h => (by cases h), fun h => (by rw [List.length_cons] at h; omega)⟩

theorem bN_rev (t : List UInt8) (i : Nat) (h : i < t.length) : bN t.reverse i = bN t (t.length - 1 - i) := by
  unfold bN
  rw [List.getD_eq_getElem?_getD, List.getD_eq_getElem?_getD, List.getElem?_reverse h]

theorem stP_rev (t P : List UInt8) (i : Nat) (h : i + P.length ≤ t.length) : stP t.reverse P.reverse (t.length - P.length - i) = stP t P i := by
  have h1 := stP_iff t P i (by omega)
  have h2 := stP_iff t.reverse P.reverse (t.length - P.length - i) (by rw [List.length_reverse]; omega)
  rw [List.length_reverse, List.length_reverse] at h2
  have key : stP t.reverse P.reverse (t.length - P.length - i) = true ↔ stP t P i = true := by
    rw [h1, h2]
    constructor
    · rintro ⟨_, q⟩
      refine ⟨h, fun k hk => ?_⟩
      have := q (P.length - 1 - k) (by omega)
      rw [bN_rev t _ (by omega), bN_rev P _ (by omega)] at this
      rw [show t.length - 1 - (t.length - P.length - i + (P.length - 1 - k)) = i + k from by omega, show P.length - 1 - (P.length - 1 - k) = k from by omega] at this
      exact this
    · rintro ⟨_, q⟩
      refine ⟨by omega, fun k hk => ?_⟩
      rw [bN_rev t _ (by omega), bN_rev P _ (by omega)]
      have := q (P.length - 1 - k) (by omega)
      rw [show t.length - 1 - (t.length - P.length - i + k) = i + (P.length - 1 - k) from by omega]
      exact this
  cases h3 : stP t P i with
  | true => exact key.2 h3
  | false =>
    cases h4 : stP t.reverse P.reverse (t.length - P.length - i) with
    | false => rfl
    | true => rw [key.1 h4] at h3; cases h3

theorem stP_long (t P : List UInt8) (i : Nat) (hi : i ≤ t.length) (h : t.length < i + P.length) : stP t P i = false := by
  cases h3 : stP t P i with
  | false => rfl
  | true => have := (stP_iff t P i hi).1 h3; omega

/-- A count over the places at which a pattern stands, read from the other end. -/
theorem count_rev (t P : List UInt8) (X Y : Nat → Bool) (hX : ∀ i, i ≤ t.length → t.length < i + P.length → X i = false) (hY : ∀ i, i ≤ t.length → t.length < i + P.length → Y i = false)
    (h : ∀ i, i + P.length ≤ t.length → X (t.length - P.length - i) = Y i) : cntB X (t.length + 1) = cntB Y (t.length + 1) := by
  by_cases hl : t.length < P.length
  · rw [cntB_false (fun i hi => hX i (by omega) (by omega)), cntB_false (fun i hi => hY i (by omega) (by omega))]
  · have e : t.length + 1 = (t.length - P.length + 1) + P.length := by omega
    have cut : ∀ Z : Nat → Bool, (∀ i, i ≤ t.length → t.length < i + P.length → Z i = false) → cntB Z (t.length + 1) = cntB Z (t.length - P.length + 1) := fun Z hZ => by
      rw [e, cntB_add Z (t.length - P.length + 1) P.length, cntB_false (f := fun j => Z (t.length - P.length + 1 + j)) (fun i hi => hZ _ (by omega) (by omega)), Nat.add_zero]
    rw [cut X hX, cut Y hY, cntB_rev X]
    exact cntB_congr (fun i hi => by rw [Nat.add_sub_cancel]; exact h i (by omega))

theorem NS_rev (t P : List UInt8) : NS t.reverse P.reverse = NS t P := by
  unfold NS
  rw [List.length_reverse]
  exact count_rev t P _ _ (fun i hi h => stP_long _ _ _ (by rw [List.length_reverse]; exact hi) (by rw [List.length_reverse, List.length_reverse]; exact h)) (fun i hi h => stP_long _ _ _ hi h) (fun i h => stP_rev t P i h)

theorem bl_snoc (c : UInt8) : ∀ (R x : List UInt8), bl x (R ++ [c]) = (bl x R || (pfx R x && bl (x.drop R.length) [c])) := by
  intro R
  induction R with
  | nil => intro x; rw [bl_nil_right]; simp [pfx]
  | cons a R ih =>
    intro x
    cases x with
    | nil => rfl
    | cons b x =>
      rw [List.cons_append, bl_cons, bl_cons, ih]
      have hp : pfx (a :: R) (b :: x) = ((b == a) && pfx R x) := by
        show ((a == b) && R.isPrefixOf x) = _
        rw [show (a == b) = (b == a) from Bool.beq_comm]; rfl
      rw [hp, List.length_cons, List.drop_succ_cons]
      cases decide (b < a) <;> cases (b == a) <;> cases bl x R <;> simp
theorem bl_one (y : List UInt8) (c : UInt8) : bl y [c] = (decide (y.length = 0) || decide (bN y 0 < c.toNat)) := by
  cases y with
  | nil => rfl
  | cons b y =>
    rw [bl_cons, bl_nil_right, Bool.and_false, Bool.or_false]
    simp [bN, u8_lt_iff]

theorem LO_snoc (u R : List UInt8) (c : UInt8) : LO u (R ++ [c]) = LO u R + cntB (fun i => stP u R i && (decide (i + R.length = u.length) || decide (bN u (i + R.length) < c.toNat))) (u.length + 1) := by
  unfold LO
  rw [← cntB_or]
  · refine cntB_congr (fun i hi => ?_)
    unfold ltP
    rw [bl_snoc, bl_one, List.drop_drop]
    congr 1
    cases hs : stP u R i with
    | false => unfold stP at hs; rw [hs]; rfl
    | true =>
      have hl := ((stP_iff u R i (by omega)).1 hs).1
      unfold stP at hs
      rw [hs]
      congr 2
      · rw [List.length_drop]
        by_cases e : i + R.length = u.length
        · rw [decide_eq_true e, decide_eq_true (by omega)]
        · rw [decide_eq_false e, decide_eq_false (by omega)]
      · unfold bN
        rw [List.getD_eq_getElem?_getD, List.getElem?_drop, Nat.add_zero, ← List.getD_eq_getElem?_getD]
  · intro i _ h
    rw [Bool.and_eq_true] at h
    have := bl_pfx h.1
    have h2 := h.2.1
    unfold stP at h2
    rw [this] at h2; cases h2

/-- The first row of the text read backwards, as the pattern grows to the left. -/
theorem back_cons {t : List UInt8} {f : Nat → Nat} (F : IsSA t f) (b : UInt8) (P : List UInt8) : LO t.reverse (b :: P).reverse = LO t.reverse P.reverse + mvP t f b.toNat (LO t P) (HI t P) := by
  rw [List.reverse_cons, LO_snoc, mvP_eq F, List.length_reverse, List.length_reverse]
  congr 1
  refine count_rev t P _ _ (fun i hi h => ?_) (fun i hi h => ?_) (fun i h => ?_)
  · rw [stP_long _ _ _ (by rw [List.length_reverse]; exact hi) (by rw [List.length_reverse, List.length_reverse]; exact h)]; rfl
  · rw [stP_long _ _ _ hi h, Bool.and_false]
  · rw [stP_rev t P i h, Bool.and_comm]
    congr 1
    by_cases h0 : i = 0
    · subst h0
      rw [decide_eq_true (show t.length - P.length - 0 + P.length = t.length by omega)]; rfl
    · rw [decide_eq_false (show ¬ t.length - P.length - i + P.length = t.length by omega), decide_eq_false h0, bN_rev t _ (by omega), show t.length - 1 - (t.length - P.length - i + P.length) = i - 1 from by omega]

theorem fwd_snoc {t : List UInt8} {f2 : Nat → Nat} (F2 : IsSA t.reverse f2) (b : UInt8) (P : List UInt8) : LO t (P ++ [b]) = LO t P + mvP t.reverse f2 b.toNat (LO t.reverse P.reverse) (HI t.reverse P.reverse) := by
  have h := back_cons F2 b P.reverse
  rw [List.reverse_cons, List.reverse_reverse, List.reverse_reverse] at h
  exact h
theorem HI_rev (t P : List UInt8) : HI t.reverse P.reverse = LO t.reverse P.reverse + (HI t P - LO t P) := by
  rw [HI_eq, NS_rev, HI_eq]; omega

/-- The pair of a pattern. -/
def PairIs (t P : List UInt8) (lo hi bk : Nat) : Prop := lo = LO t P ∧ hi = HI t P ∧ bk = LO t.reverse P.reverse
theorem PairIs.nil (t : List UInt8) : PairIs t [] 0 (t.length + 1) 0 := ⟨(LO_nil t).symm, (HI_nil t).symm, (LO_nil _).symm⟩
theorem PairIs.ok {t P : List UInt8} {lo hi bk : Nat} (h : PairIs t P lo hi bk) : lo ≤ hi ∧ hi ≤ t.length + 1 ∧ bk + (hi - lo) ≤ t.length + 1 := by
  obtain ⟨rfl, rfl, rfl⟩ := h
  refine ⟨LO_le _ _, HI_le _ _, ?_⟩
  rw [← HI_rev]
  have := HI_le t.reverse P.reverse
  rw [List.length_reverse] at this
  exact this
theorem PairIs.left {t P : List UInt8} {lo hi bk : Nat} {f : Nat → Nat} (h : PairIs t P lo hi bk) (F : IsSA t f) (b : UInt8) :
    PairIs t (b :: P) (mvL t f b.toNat lo) (mvL t f b.toNat hi) (bk + mvP t f b.toNat lo hi) := by
  obtain ⟨rfl, rfl, rfl⟩ := h
  exact ⟨(LO_cons F b P).symm, (HI_cons F b P).symm, (back_cons F b P).symm⟩
theorem PairIs.right {t P : List UInt8} {lo hi bk : Nat} {f2 : Nat → Nat} (h : PairIs t P lo hi bk) (F2 : IsSA t.reverse f2) (b : UInt8) :
    PairIs t (P ++ [b]) (lo + mvP t.reverse f2 b.toNat bk (bk + hi - lo)) (lo + mvP t.reverse f2 b.toNat bk (bk + hi - lo) + mvL t.reverse f2 b.toNat (bk + hi - lo) - mvL t.reverse f2 b.toNat bk) (mvL t.reverse f2 b.toNat bk) := by
  obtain ⟨rfl, rfl, rfl⟩ := h
  have hle := LO_le t P
  have e : LO t.reverse P.reverse + HI t P - LO t P = HI t.reverse P.reverse := by rw [HI_rev]; omega
  rw [e, ← LO_cons F2, ← HI_cons F2, ← fwd_snoc F2]
  refine ⟨rfl, ?_, by rw [List.reverse_append]; rfl⟩
  rw [HI_eq t, HI_eq t.reverse, ← NS_rev t, List.reverse_append]
  show _ = LO t (P ++ [b]) + NS t.reverse (b :: P.reverse)
  omega
theorem PairIs.count {t P : List UInt8} {lo hi bk : Nat} (h : PairIs t P lo hi bk) : hi = lo + NS t P := by
  obtain ⟨rfl, rfl, rfl⟩ := h
  exact HI_eq t P
end Go.Proofs.YtkebgnpifmcmaabGreat

namespace Go.Proofs.YtkebgnpifmcmaabGreat
open Go.RowKit

/-- The places below m that a look shows. -/
def filt (B : Nat → Bool) : Nat → List Nat
  | 0 => []
  | m + 1 => if B m = true then filt B m ++ [m] else filt B m
theorem filt_yes {B : Nat → Bool} {m : Nat} (h : B m = true) : filt B (m + 1) = filt B m ++ [m] := if_pos h
theorem filt_no {B : Nat → Bool} {m : Nat} (h : B m = false) : filt B (m + 1) = filt B m := if_neg (by rw [h]; simp)
theorem filt_length (B : Nat → Bool) (m : Nat) : (filt B m).length = cntB B m := by
  induction m with
  | zero => rfl
  | succ m ih =>
    cases h : B m with
    | true => rw [filt_yes h, List.length_append, ih]; simp only [cntB]; rw [h]; rfl
    | false => rw [filt_no h, ih]; simp only [cntB]; rw [h]; rfl

/-- A list of numbers of one's own. -/
def OwnL (w : World) (base : Nat) (v : Value) (l : List Nat) : Prop := w.ownsRow base 3 1 v l.length (NL l)
theorem OwnL.shape {w : World} {base : Nat} {v : Value} {l : List Nat} (h : OwnL w base v l) :
    ∃ ao cap, v = .slice ao l.length cap ∧ (0 < l.length → ∃ g, ao = some ⟨g, 0, none⟩ ∧ base ≤ g ∧ Row w g 3 l.length (IN fun j => l.getD j 0)) := by
  rcases h.2 with ⟨hv, h0⟩ | ⟨g, cap, cur, hv, hb, hg, hnc, hcm, hcs, htake⟩
  · exact ⟨none, 0, by rw [hv, h0], fun x => by omega⟩
  · refine ⟨some ⟨g, 0, none⟩, cap, hv, fun _ => ⟨g, rfl, hb, ?_⟩⟩
    subst hv
    exact Row.owned h (fun j hj => by simp [NL, IN, List.getD_eq_getElem?_getD, hj])
theorem OwnL.below {w w' : World} {base : Nat} {v : Value} {l : List Nat} (h : OwnL w base v l) (hb : Below w.heap.size w w') : OwnL w' base v l := own_below h hb
end Go.Proofs.YtkebgnpifmcmaabGreat

namespace Go.Proofs.YtkebgnpifmcmaabGreat
open Go.RowKit

/-- The first row of a pattern in the text read backwards. -/
def BK (t P : List UInt8) : Nat := LO t.reverse P.reverse

theorem agg3_inj {a b c a' b' c' : Int} (h : (.agg #[.int .i64 a, .int .i64 b, .int .i64 c] : Value) = .agg #[.int .i64 a', .int .i64 b', .int .i64 c']) : a = a' ∧ b = b' ∧ c = c' := by
  simpa using h

theorem left_pair {im s : ByteArray} {rate : Nat} (hI : Img im s rate) (P : List UInt8) (b : UInt8) (w : World) :
    Calls Tryz.prog 73 #[.string im, .agg #[.int .i64 (LO (tx s) P : Int), .int .i64 (HI (tx s) P : Int), .int .i64 (BK (tx s) P : Int)], .int .i64 (b.toNat : Int)] w (PRes (LO (tx s) (b :: P) : Int) (HI (tx s) (b :: P) : Int) (BK (tx s) (b :: P) : Int) 0 w) := by
  obtain ⟨hR, hT, _⟩ := hI
  have hp : PairIs (tx s) P (LO (tx s) P) (HI (tx s) P) (BK (tx s) P) := ⟨rfl, rfl, rfl⟩
  have hok := hp.ok
  have hb := b.toNat_lt
  refine (left_any im _ _ _ _ w).mono ?_
  rintro e w' ⟨x, y, z, n, hq, hr⟩
  rcases hq with ⟨h, _⟩ | ⟨_, h, _⟩ | ⟨_, l, u, k, b', q1, q2, q3, q4, _, _, _, _, rfl, ⟨_, f, F, hv⟩ | ⟨h, _⟩⟩
  · exact absurd hR h
  · rw [hT] at h
    exact absurd ⟨by omega, by omega, pairOk_nat hok.1 hok.2.1 hok.2.2⟩ h
  · rw [hT] at F hv
    have e1 := Int.natCast_inj.1 q1
    have e2 := Int.natCast_inj.1 q2
    have e3 := Int.natCast_inj.1 q3
    have e4 := Int.natCast_inj.1 q4
    subst e1 e2 e3 e4
    obtain ⟨h1, h2, h3⟩ := hp.left F b
    unfold leftV at hv
    rw [h1, h2, h3] at hv
    obtain ⟨rfl, rfl, rfl⟩ := agg3_inj hv
    exact hr
  · exact absurd h (by decide)
theorem right_pair {im s : ByteArray} {rate : Nat} (hI : Img im s rate) (P : List UInt8) (b : UInt8) (w : World) :
    Calls Tryz.prog 74 #[.string im, .agg #[.int .i64 (LO (tx s) P : Int), .int .i64 (HI (tx s) P : Int), .int .i64 (BK (tx s) P : Int)], .int .i64 (b.toNat : Int)] w (PRes (LO (tx s) (P ++ [b]) : Int) (HI (tx s) (P ++ [b]) : Int) (BK (tx s) (P ++ [b]) : Int) 0 w) := by
  obtain ⟨hR, hT, _⟩ := hI
  have hp : PairIs (tx s) P (LO (tx s) P) (HI (tx s) P) (BK (tx s) P) := ⟨rfl, rfl, rfl⟩
  have hok := hp.ok
  have hb := b.toNat_lt
  refine (right_any im _ _ _ _ w).mono ?_
  rintro e w' ⟨x, y, z, n, hq, hr⟩
  rcases hq with ⟨h, _⟩ | ⟨_, h, _⟩ | ⟨_, l, u, k, b', q1, q2, q3, q4, _, _, _, _, rfl, ⟨h, _⟩ | ⟨_, f, F, hv⟩⟩
  · exact absurd hR h
  · rw [hT] at h
    exact absurd ⟨by omega, by omega, pairOk_nat hok.1 hok.2.1 hok.2.2⟩ h
  · exact absurd h (by decide)
  · rw [hT] at F hv
    have e1 := Int.natCast_inj.1 q1
    have e2 := Int.natCast_inj.1 q2
    have e3 := Int.natCast_inj.1 q3
    have e4 := Int.natCast_inj.1 q4
    subst e1 e2 e3 e4
    obtain ⟨h1, h2, h3⟩ := hp.right F b
    unfold rightV at hv
    rw [h2, h1, h3] at hv
    obtain ⟨rfl, rfl, rfl⟩ := agg3_inj hv
    exact hr

/-- Which of n things a raw number speaks of. -/
def pickN (x : Int) (n : Nat) : Nat := (if x < 0 then (-(x + 1)).toNat else x.toNat) % n
theorem pickN_lt (x : Int) {n : Nat} (h : 0 < n) : pickN x n < n := Nat.mod_lt _ h

set_option maxRecDepth 10000 in
set_option maxHeartbeats 400000 in
theorem pick_any (x : Int) (n : Nat) (w : World) (hx : (Lit.int .i64 x).wf = true) (h0 : 0 < n) (hn : n ≤ 3000) :
    Calls Tryz.prog 17 #[.int .i64 x, .int .i64 (n : Int)] w fun e w' => e = .returned (.int .i64 (pickN x n : Int)) ∧ w' = w := by
  obtain ⟨h1, h2⟩ := wf_bounds hx
  by_cases h : x < 0
  · obtain ⟨r, hr⟩ : ∃ r : Nat, -(x + 1) = (r : Int) := ⟨(-(x + 1)).toNat, by omega⟩
    have d0 : decide (x < 0) = true := by simpa using h
    have HP : Hid (pickN x n = r % n) := by show pickN x n = r % n; unfold pickN; rw [if_pos h, hr, Int.toNat_natCast]
    have hlt : r % n < n := Nat.mod_lt _ h0
    have hq : (r : Int).tmod (n : Int) = ((r % n : Nat) : Int) := by rw [Int.tmod_eq_emod_of_nonneg (by omega)]; exact (Int.natCast_emod r n).symm
    have hq2 : (r : Int) % (n : Int) = ((r % n : Nat) : Int) := (Int.natCast_emod r n).symm
    obtain ⟨q, hqd⟩ : ∃ q, q = r % n := ⟨_, rfl⟩
    rw [← hqd] at HP hlt hq hq2
    clear hqd
    have hne : ((n : Int) == 0) = false := by simp; omega
    go_enter Tryz.func17, Tryz.ntmps17
    go_wp2
    go_ret
    exact ⟨by rw [HP.out]; go_num, rfl⟩
  · obtain ⟨r, rfl⟩ : ∃ r : Nat, x = (r : Int) := ⟨x.toNat, by omega⟩
    have d0 : decide ((r : Int) < 0) = false := decide_eq_false h
    have HP : Hid (pickN (r : Int) n = r % n) := by show pickN (r : Int) n = r % n; unfold pickN; rw [if_neg h, Int.toNat_natCast]
    have hlt : r % n < n := Nat.mod_lt _ h0
    have hq : (r : Int).tmod (n : Int) = ((r % n : Nat) : Int) := by rw [Int.tmod_eq_emod_of_nonneg (by omega)]; exact (Int.natCast_emod r n).symm
    have hq2 : (r : Int) % (n : Int) = ((r % n : Nat) : Int) := (Int.natCast_emod r n).symm
    obtain ⟨q, hqd⟩ : ∃ q, q = r % n := ⟨_, rfl⟩
    rw [← hqd] at HP hlt hq hq2
    clear hqd
    have hne : ((n : Int) == 0) = false := by simp; omega
    go_enter Tryz.func17, Tryz.ntmps17
    go_wp2
    go_ret
    exact ⟨by rw [HP.out]; go_num, rfl⟩

set_option maxRecDepth 10000 in
set_option maxHeartbeats 400000 in
theorem image_keep (s : ByteArray) (x : Int) (w : World) (hn : s.size ≤ 2000) (hx : (Lit.int .i64 x).wf = true) :
    Calls Tryz.prog 15 #[.string s, .int .i64 x] w fun e w' => ∃ im, Img im s (1 + pickN x 64) ∧ e = .returned (.tuple #[.string im, .bool true]) ∧ Below w.heap.size w w' := by
  have hlt := pickN_lt x (n := 64) (by decide)
  have HP : Hid _ := pick_any x 64 w hx (by decide) (by decide)
  have HB : Hid (∀ w, Calls Tryz.prog 30 #[.string s, .int .i64 (1 + (pickN x 64 : Int))] w fun en w' => ∃ im, Img im s (1 + pickN x 64) ∧ en = .returned (.tuple #[.string im, .int .i64 0]) ∧ Below w.heap.size w w') := fun w => by
    have := build_rd s (1 + pickN x 64) w hn (by omega) (by omega)
    rw [Int.natCast_add] at this
    exact this
  generalize pickN x 64 = q at *
  go_enter Tryz.func15, Tryz.ntmps15
  go_wp2_with fail
  refine Calls.mono HP.out ?_
  clear HP
  rintro en w1 ⟨rfl, rfl⟩
  go_wp2_with fail
  refine Calls.mono (HB.out _) ?_
  clear HB
  rintro en w2 ⟨im, hI, rfl, hb⟩
  have HI : Hid (Img im s (1 + q)) := hI
  clear hI
  go_wp2
  go_ret2
  exact ⟨im, HI.out, rfl, hb⟩

/-- A look at a place shows a pattern. -/
theorem stP_ext (s p : ByteArray) (i : Nat) (h : i + p.size ≤ s.size) : ((s.extract i (i + p.size)).toList == p.toList) = stP (tx s) (tx p) i := by
  have h1 := stP_iff (tx s) (tx p) i (by rw [tx_length]; omega)
  rw [tx_length, tx_length] at h1
  have key : (s.extract i (i + p.size)).toList = p.toList ↔ stP (tx s) (tx p) i = true := by
    rw [h1]
    rw [Lib.toList_data, Lib.toList_data]
    have hl : (s.extract i (i + p.size)).data.toList.length = p.size := by
      simp; omega
    have hpl : p.data.toList.length = p.size := by simp
    have hget : ∀ k, k < p.size → (s.extract i (i + p.size)).data.toList.getD k 0 = (tx s).getD (i + k) 0 := fun k hk => by
      show (s.extract i (i + p.size)).data.toList.getD k 0 = s.data.toList.getD (i + k) 0
      rw [show (s.extract i (i + p.size)).data = s.data.extract i (i + p.size) from ByteArray.data_extract]
      rw [Array.toList_extract, List.extract_eq_take_drop]
      rw [List.getD_eq_getElem?_getD, List.getD_eq_getElem?_getD, List.getElem?_take_of_lt (by omega), List.getElem?_drop]
    constructor
    · intro he
      refine ⟨h, fun k hk => ?_⟩
      unfold bN
      rw [← hget k hk, he]; rfl
    · rintro ⟨_, hb⟩
      apply List.ext_getElem (by rw [hl, hpl])
      intro k hk1 hk2
      have hk : k < p.size := by rw [hpl] at hk2; exact hk2
      have e1 := hget k hk
      have e2 := hb k hk
      rw [List.getD_eq_getElem?_getD, List.getElem?_eq_getElem hk1] at e1
      unfold bN at e2
      rw [← e1] at e2
      have e3 : (tx p).getD k 0 = p.data.toList[k] := by
        show p.data.toList.getD k 0 = _
        rw [List.getD_eq_getElem?_getD, List.getElem?_eq_getElem hk2]; rfl
      rw [e3] at e2
      exact (u8_eq_iff _ _).2 e2
  cases hs : stP (tx s) (tx p) i with
  | true => rw [key.2 hs]; simp
  | false =>
    rw [beq_eq_false_iff_ne]
    intro he
    rw [key.1 he] at hs; cases hs
end Go.Proofs.YtkebgnpifmcmaabGreat
