/- From a transform back to its text. Plain mathematics. -/
import Derived.Test.YtkebgnpifmcmaaaWL
namespace Go.Proofs.Ytkebgnpifmcmaaa

/-- What stands where in the bytes ahead of the rows. -/
theorem pre_facts {t : List UInt8} {f : Nat → Nat} {e n : Nat} (h0 : ∀ x, x ≤ n → (f x = 0 ↔ x = e)) : ∀ m, m ≤ n + 1 →
    (pre t f m).length = (if m ≤ e then m else m - 1) ∧ ∀ x, x < m → x ≠ e → (pre t f m).getD (idx e x) 0 = t.getD (f x - 1) 0 := by
  intro m
  induction m with
  | zero => intro _; exact ⟨by simp [pre], fun x hx => by omega⟩
  | succ m ih =>
    intro hm
    obtain ⟨i1, i2⟩ := ih (by omega)
    by_cases c : m = e
    · have z : f m = 0 := (h0 m (by omega)).2 c
      rw [pre_zero z]
      refine ⟨by rw [i1, if_pos (show m ≤ e by omega), if_neg (show ¬ m + 1 ≤ e by omega)]; omega, fun x hx hxe => i2 x (by omega) hxe⟩
    · have z : f m ≠ 0 := fun h => c ((h0 m (by omega)).1 h)
      rw [pre_next z]
      have hidx : idx e m = (pre t f m).length := by
        rw [i1]; unfold idx
        by_cases d : m > e
        · rw [if_pos d, if_neg (by omega)]
        · rw [if_neg d, if_pos (by omega)]
      refine ⟨?_, fun x hx hxe => ?_⟩
      · rw [List.length_append, i1, List.length_singleton]
        by_cases d : m ≤ e
        · rw [if_pos d, if_pos (show m + 1 ≤ e by omega)]
        · rw [if_neg d, if_neg (show ¬ m + 1 ≤ e by omega)]; omega
      · by_cases ex : x = m
        · subst ex
          rw [hidx, List.getD_eq_getElem?_getD, List.getElem?_append_right (Nat.le_refl _), Nat.sub_self]; rfl
        · have hlt : idx e x < (pre t f m).length := by
            rw [← hidx]; exact (idx_mono hxe c).2 (by omega)
          rw [← i2 x (by omega) hxe, List.getD_eq_getElem?_getD, List.getElem?_append_left hlt, ← List.getD_eq_getElem?_getD]

theorem sa_end {t : List UInt8} {f : Nat → Nat} (F : IsSA t f) : endOf f (t.length + 1) ≤ t.length ∧ f (endOf f (t.length + 1)) = 0 := by
  rw [endOf_pos]; exact F.pos (Nat.zero_le _)
theorem sa_zero {t : List UInt8} {f : Nat → Nat} (F : IsSA t f) (x : Nat) (hx : x ≤ t.length) : f x = 0 ↔ x = endOf f (t.length + 1) := by
  have h := sa_end F
  constructor
  · intro e; exact F.inj hx h.1 (by rw [e, h.2])
  · intro e; rw [e]; exact h.2
theorem bwt_length {t : List UInt8} {f : Nat → Nat} (F : IsSA t f) : (pre t f (t.length + 1)).length = t.length := by
  have h := (pre_facts (t := t) (sa_zero F) (t.length + 1) (Nat.le_refl _)).1
  have := (sa_end F).1
  rw [h, if_neg (by omega), Nat.add_sub_cancel]
theorem bwt_get {t : List UInt8} {f : Nat → Nat} (F : IsSA t f) (x : Nat) (hx : x ≤ t.length) (hne : x ≠ endOf f (t.length + 1)) : (pre t f (t.length + 1)).getD (idx (endOf f (t.length + 1)) x) 0 = t.getD (f x - 1) 0 :=
  (pre_facts (t := t) (sa_zero F) (t.length + 1) (Nat.le_refl _)).2 x (by omega) hne

/-- The place ahead of a row's, for the byte number i of the transform. -/
theorem bwt_byte {t : List UInt8} {f : Nat → Nat} (F : IsSA t f) (i : Nat) (hi : i < t.length) : bN (pre t f (t.length + 1)) i = bN t (f (unidx (endOf f (t.length + 1)) i) - 1) := by
  have h := bwt_get F (unidx (endOf f (t.length + 1)) i) (unidx_le hi) (unidx_ne _ _)
  rw [idx_unidx] at h
  unfold bN; rw [h]
theorem f_pos {t : List UInt8} {f : Nat → Nat} (F : IsSA t f) (i : Nat) (hi : i < t.length) : 0 < f (unidx (endOf f (t.length + 1)) i) := by
  rcases Nat.eq_zero_or_pos (f (unidx (endOf f (t.length + 1)) i)) with h | h
  · exact absurd ((sa_zero F _ (unidx_le hi)).1 h) (unidx_ne _ _)
  · exact h
theorem sl_step {t : List UInt8} (a b : Nat) (ha : 0 < a) (hb : 0 < b) (ha' : a ≤ t.length) (hb' : b ≤ t.length) : sl t (a - 1) (b - 1) = true ↔ bN t (a - 1) < bN t (b - 1) ∨ (bN t (a - 1) = bN t (b - 1) ∧ sl t a b = true) := by
  have h1 : a - 1 < t.length := by omega
  have h2 : b - 1 < t.length := by omega
  unfold sl
  rw [List.drop_eq_getElem_cons h1, List.drop_eq_getElem_cons h2, bl_cons_iff, bN_lt h1, bN_lt h2, show a - 1 + 1 = a from by omega, show b - 1 + 1 = b from by omega]

/-- The row of the suffix a byte longer. -/
theorem lf {t : List UInt8} {f : Nat → Nat} (F : IsSA t f) (i : Nat) (hi : i < t.length) : f (1 + rk (bN (pre t f (t.length + 1))) t.length i) = f (unidx (endOf f (t.length + 1)) i) - 1 := by
  have P := fun (i : Nat) (hi : i < t.length) => F.pos (x := f (unidx (endOf f (t.length + 1)) i) - 1) (by have := F.le _ (unidx_le (e := endOf f (t.length + 1)) hi); omega)
  have Y : ∀ i, i < t.length → 0 < posOf f (f (unidx (endOf f (t.length + 1)) i) - 1) (t.length + 1) := by
    intro i hi
    rcases Nat.eq_zero_or_pos (posOf f (f (unidx (endOf f (t.length + 1)) i) - 1) (t.length + 1)) with h | h
    · have h1 := (P i hi).2
      rw [h, F.first] at h1
      have h2 := F.le _ (unidx_le (e := endOf f (t.length + 1)) hi)
      have h3 := f_pos F i hi
      omega
    · exact h
  have key := order_eq (n := t.length) (p := fun i => posOf f (f (unidx (endOf f (t.length + 1)) i) - 1) (t.length + 1) - 1) (q := rk (bN (pre t f (t.length + 1))) t.length)
    (fun i hi => by have h1 := (P i hi).1; have h2 := Y i hi; show posOf f (f (unidx (endOf f (t.length + 1)) i) - 1) (t.length + 1) - 1 < t.length; omega)
    (fun i hi => rk_lt _ _ _ hi)
    (fun i j hi hj h => by
      have h' : posOf f (f (unidx (endOf f (t.length + 1)) i) - 1) (t.length + 1) - 1 = posOf f (f (unidx (endOf f (t.length + 1)) j) - 1) (t.length + 1) - 1 := h
      have yi := Y i hi
      have yj := Y j hj
      have h2 : posOf f (f (unidx (endOf f (t.length + 1)) i) - 1) (t.length + 1) = posOf f (f (unidx (endOf f (t.length + 1)) j) - 1) (t.length + 1) := by omega
      have e1 := (P i hi).2
      have e2 := (P j hj).2
      rw [h2, e2] at e1
      have p1 := f_pos F i hi
      have p2 := f_pos F j hj
      have := F.inj (unidx_le hi) (unidx_le hj) (show f (unidx (endOf f (t.length + 1)) i) = f (unidx (endOf f (t.length + 1)) j) by omega)
      have := congrArg (idx (endOf f (t.length + 1))) this
      rwa [idx_unidx, idx_unidx] at this)
    (fun i j hi hj => rk_inj _ _ hi hj)
    (fun i j hi hj => by
      have yi := Y i hi
      have yj := Y j hj
      have h1 : posOf f (f (unidx (endOf f (t.length + 1)) i) - 1) (t.length + 1) - 1 < posOf f (f (unidx (endOf f (t.length + 1)) j) - 1) (t.length + 1) - 1 ↔
        posOf f (f (unidx (endOf f (t.length + 1)) i) - 1) (t.length + 1) < posOf f (f (unidx (endOf f (t.length + 1)) j) - 1) (t.length + 1) := by omega
      show posOf f (f (unidx (endOf f (t.length + 1)) i) - 1) (t.length + 1) - 1 < posOf f (f (unidx (endOf f (t.length + 1)) j) - 1) (t.length + 1) - 1 ↔ _
      rw [h1, ← F.lt_iff (P i hi).1 (P j hj).1, (P i hi).2, (P j hj).2, sl_step _ _ (f_pos F i hi) (f_pos F j hj) (F.le _ (unidx_le hi)) (F.le _ (unidx_le hj)), F.lt_iff (unidx_le hi) (unidx_le hj), unidx_mono, ← bwt_byte F i hi, ← bwt_byte F j hj, rk_lt_iff _ _ hi hj])
  have h := key i hi
  have h' : posOf f (f (unidx (endOf f (t.length + 1)) i) - 1) (t.length + 1) - 1 = rk (bN (pre t f (t.length + 1))) t.length i := h
  have yi := Y i hi
  rw [← h', show 1 + (posOf f (f (unidx (endOf f (t.length + 1)) i) - 1) (t.length + 1) - 1) = posOf f (f (unidx (endOf f (t.length + 1)) i) - 1) (t.length + 1) from by omega]
  exact (P i hi).2

/-- The way from row 0 goes through the text from its end. -/
theorem rr_sa {t : List UInt8} {f : Nat → Nat} (F : IsSA t f) : ∀ k, k ≤ t.length → rr (bN (pre t f (t.length + 1))) t.length (endOf f (t.length + 1)) k ≤ t.length ∧ f (rr (bN (pre t f (t.length + 1))) t.length (endOf f (t.length + 1)) k) = t.length - k := by
  intro k
  induction k with
  | zero => intro _; exact ⟨Nat.zero_le _, by show f 0 = _; rw [F.first]; rfl⟩
  | succ k ih =>
    intro hk
    obtain ⟨h1, h2⟩ := ih (by omega)
    have hne : rr (bN (pre t f (t.length + 1))) t.length (endOf f (t.length + 1)) k ≠ endOf f (t.length + 1) := by
      intro h
      have := (sa_zero F _ h1).2 h
      omega
    have hi := idx_lt h1 (sa_end F).1 hne
    have hl := lf F _ hi
    rw [unidx_idx hne, h2] at hl
    rw [rr_succ]
    refine ⟨by have := rk_lt (bN (pre t f (t.length + 1))) t.length _ hi; omega, by rw [hl]; omega⟩
theorem bwt_ok {t : List UInt8} {f : Nat → Nat} (F : IsSA t f) : okBack (pre t f (t.length + 1)) (endOf f (t.length + 1)) := by
  intro j hj h
  rw [bwt_length F] at hj h
  have h1 := rr_sa F j (by omega)
  rw [h] at h1
  have := (sa_end F).2
  omega
theorem bwt_back {t : List UInt8} {f : Nat → Nat} (F : IsSA t f) : backText (pre t f (t.length + 1)) (endOf f (t.length + 1)) = t := by
  have hl := bwt_length F
  apply List.ext_getElem
  · rw [backText_length, hl]
  · intro j h1 h2
    have q := backText_get (pre t f (t.length + 1)) (endOf f (t.length + 1)) (t.length - 1 - j) (by rw [hl]; omega) (by rw [backText_length, hl]; omega)
    have e : (pre t f (t.length + 1)).length - 1 - (t.length - 1 - j) = j := by rw [hl]; omega
    have q2 : (backText (pre t f (t.length + 1)) (endOf f (t.length + 1)))[j] = (pre t f (t.length + 1)).getD (idx (endOf f (t.length + 1)) (rr (bN (pre t f (t.length + 1))) (pre t f (t.length + 1)).length (endOf f (t.length + 1)) (t.length - 1 - j))) 0 := by
      rw [← q]; congr 1; exact e.symm
    rw [q2, hl]
    have r := rr_sa F (t.length - 1 - j) (by omega)
    have hne : rr (bN (pre t f (t.length + 1))) t.length (endOf f (t.length + 1)) (t.length - 1 - j) ≠ endOf f (t.length + 1) := by
      intro h
      have := (sa_zero F _ r.1).2 h
      omega
    rw [bwt_get F _ r.1 hne, r.2, show t.length - (t.length - 1 - j) - 1 = j from by omega, List.getD_eq_getElem?_getD, List.getElem?_eq_getElem h2, Option.getD_some]
/-- A transform has the bytes of its text, each as often. -/
theorem bwt_cnt {t : List UInt8} {f : Nat → Nat} (F : IsSA t f) (c : Nat) : cnt (bN (pre t f (t.length + 1))) c t.length = cnt (bN t) c t.length := by
  rw [cnt_congr (fun i hi => bwt_byte F i hi) c]
  refine cnt_perm t.length (bN t) (fun i => f (unidx (endOf f (t.length + 1)) i) - 1) (fun i hi => ?_) (fun i j hi hj h => ?_) c
  · have h1 := f_pos F i hi
    have h2 := F.le _ (unidx_le (e := endOf f (t.length + 1)) hi)
    show f (unidx (endOf f (t.length + 1)) i) - 1 < t.length
    omega
  · have p1 := f_pos F i hi
    have p2 := f_pos F j hj
    have h' : f (unidx (endOf f (t.length + 1)) i) - 1 = f (unidx (endOf f (t.length + 1)) j) - 1 := h
    have := F.inj (unidx_le hi) (unidx_le hj) (show f (unidx (endOf f (t.length + 1)) i) = f (unidx (endOf f (t.length + 1)) j) by omega)
    have := congrArg (idx (endOf f (t.length + 1))) this
    rwa [idx_unidx, idx_unidx] at this
end Go.Proofs.Ytkebgnpifmcmaaa
