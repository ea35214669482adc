/- Transforms and the way back. Plain mathematics. -/
import Derived.Test.YtkebgnpifmcmaaaArr
namespace Go.Proofs.Ytkebgnpifmcmaaa

/-- Two one to one maps of the first n places into themselves that order the places alike are one. -/
theorem order_eq {n : Nat} {p q : Nat → Nat} (hp : ∀ i, i < n → p i < n) (hq : ∀ i, i < n → q i < n) (ip : ∀ i j, i < n → j < n → p i = p j → i = j) (iq : ∀ i j, i < n → j < n → q i = q j → i = j)
    (h : ∀ i j, i < n → j < n → (p i < p j ↔ q i < q j)) : ∀ i, i < n → p i = q i := by
  have key : ∀ v i, i < n → p i = v → q i = v := by
    intro v
    induction v using Nat.strongRecOn with
    | _ v ih =>
      intro i hi hv
      have hvn : v < n := by have := hp i hi; omega
      rcases Nat.lt_trichotomy (q i) v with d | d | d
      · exfalso
        obtain ⟨j, hj, ej⟩ := surj_of_inj n p hp ip (q i) (hq i hi)
        have := ih (q i) d j hj ej
        have := iq j i hj hi this
        subst this; omega
      · exact d
      · exfalso
        obtain ⟨j, hj, ej⟩ := surj_of_inj n q hq iq v hvn
        have h1 : p j < p i := (h j i hj hi).2 (by omega)
        have := ih (p j) (by omega) j hj rfl
        omega
  intro i hi
  exact (key (p i) i hi rfl).symm

/-- The row of a place. -/
def posOf (f : Nat → Nat) (x : Nat) : Nat → Nat
  | 0 => 0
  | k + 1 => if f k = x then k else posOf f x k
theorem posOf_at {f : Nat → Nat} {x i : Nat} : ∀ {m : Nat}, i < m → f i = x → (∀ j, j < m → f j = x → j = i) → posOf f x m = i := by
  intro m
  induction m with
  | zero => intro h; omega
  | succ m ih =>
    intro him hx hu
    simp only [posOf]
    by_cases e : f m = x
    · rw [if_pos e]; exact hu m (by omega) e
    · rw [if_neg e]
      have : i ≠ m := fun h => e (by rw [← h]; exact hx)
      exact ih (by omega) hx (fun j hj => hu j (by omega))
theorem endOf_pos (f : Nat → Nat) (m : Nat) : endOf f m = posOf f 0 m := by
  induction m with
  | zero => rfl
  | succ m ih => simp only [endOf, posOf, ih]
theorem IsSA.pos {t : List UInt8} {f : Nat → Nat} (F : IsSA t f) {x : Nat} (hx : x ≤ t.length) : posOf f x (t.length + 1) ≤ t.length ∧ f (posOf f x (t.length + 1)) = x := by
  obtain ⟨i, hi, e⟩ := F.surj hx
  have : posOf f x (t.length + 1) = i := posOf_at (by omega) e (fun j hj h => F.inj (by omega) hi (by omega))
  rw [this]; exact ⟨hi, e⟩
theorem IsSA.pos_row {t : List UInt8} {f : Nat → Nat} (F : IsSA t f) {i : Nat} (hi : i ≤ t.length) : posOf f (f i) (t.length + 1) = i :=
  posOf_at (by omega) rfl (fun j hj h => F.inj (by omega) hi h)
theorem IsSA.first {t : List UInt8} {f : Nat → Nat} (F : IsSA t f) : f 0 = t.length := by
  obtain ⟨i, hi, e⟩ := F.surj (Nat.le_refl t.length)
  by_cases h : i = 0
  · subst h; exact e
  · have := F.lt 0 i (by omega) hi
    rw [e] at this
    unfold sl at this
    rw [List.drop_length, bl_nil_right] at this; cases this

/-- Where the byte ahead of a row stands. -/
def idx (e row : Nat) : Nat := if row > e then row - 1 else row
theorem idx_lt {n e x : Nat} (hx : x ≤ n) (he : e ≤ n) (hne : x ≠ e) : idx e x < n := by unfold idx; split <;> omega
theorem idx_mono {e x y : Nat} (hx : x ≠ e) (hy : y ≠ e) : idx e x < idx e y ↔ x < y := by unfold idx; split <;> split <;> omega
theorem idx_inj {e x y : Nat} (hx : x ≠ e) (hy : y ≠ e) (h : idx e x = idx e y) : x = y := by
  have h1 := idx_mono hx hy
  have h2 := idx_mono hy hx
  omega
def unidx (e i : Nat) : Nat := if i < e then i else i + 1
theorem idx_unidx (e i : Nat) : idx e (unidx e i) = i := by unfold idx unidx; split <;> split <;> omega
theorem unidx_ne (e i : Nat) : unidx e i ≠ e := by unfold unidx; split <;> omega
theorem unidx_le {n e i : Nat} (hi : i < n) : unidx e i ≤ n := by unfold unidx; split <;> omega
theorem unidx_idx {e x : Nat} (h : x ≠ e) : unidx e (idx e x) = x := by unfold idx unidx; split <;> split <;> omega
theorem unidx_mono (e i j : Nat) : unidx e i < unidx e j ↔ i < j := by unfold unidx; split <;> split <;> omega

/-- The rows of the way back. -/
def rr (b : Nat → Nat) (n e : Nat) : Nat → Nat
  | 0 => 0
  | k + 1 => 1 + rk b n (idx e (rr b n e k))
theorem rr_succ (b : Nat → Nat) (n e k : Nat) : rr b n e (k + 1) = 1 + rk b n (idx e (rr b n e k)) := rfl
theorem rr_le {b : Nat → Nat} {n e : Nat} (he : e ≤ n) : ∀ {k : Nat}, (∀ j, j < k → rr b n e j ≠ e) → rr b n e k ≤ n := by
  intro k
  induction k with
  | zero => intro _; exact Nat.zero_le _
  | succ k ih =>
    intro h
    have h1 := ih (fun j hj => h j (by omega))
    have := rk_lt b n _ (idx_lt h1 he (h k (by omega)))
    rw [rr_succ]; omega
theorem rr_inj {b : Nat → Nat} {n e : Nat} (he : e ≤ n) (hne : ∀ j, j < n → rr b n e j ≠ e) : ∀ i j, i < j → j ≤ n → rr b n e i ≠ rr b n e j := by
  intro i
  induction i with
  | zero =>
    intro j hj _ h
    obtain ⟨q, rfl⟩ : ∃ q, j = q + 1 := ⟨j - 1, by omega⟩
    rw [rr_succ] at h
    have h0 : rr b n e 0 = 0 := rfl
    omega
  | succ i ih =>
    intro j hij hj h
    obtain ⟨q, rfl⟩ : ∃ q, j = q + 1 := ⟨j - 1, by omega⟩
    rw [rr_succ, rr_succ] at h
    have hi := rr_le (b := b) he (k := i) (fun j hj => hne j (by omega))
    have hq := rr_le (b := b) he (k := q) (fun j hj => hne j (by omega))
    have h1 := rk_inj b n (idx_lt hi he (hne i (by omega))) (idx_lt hq he (hne q (by omega))) (by omega)
    exact ih q (by omega) (by omega) (idx_inj (hne i (by omega)) (hne q (by omega)) h1)

/-- The bytes as numbers. -/
def bN (L : List UInt8) (i : Nat) : Nat := (L.getD i 0).toNat
theorem bN_lt {L : List UInt8} {i : Nat} (h : i < L.length) : bN L i = L[i].toNat := by simp [bN, List.getD_eq_getElem?_getD, h]
theorem byN_tx (s : ByteArray) (i : Nat) (h : i < s.size) : byN s i = bN (tx s) i := by
  rw [byN_lt s i h, bN_lt (by rw [tx_length]; exact h), tx_get s i h]; rfl

/-- The text of the way back. -/
def backText (L : List UInt8) (e : Nat) : List UInt8 := (List.range L.length).map fun j => L.getD (idx e (rr (bN L) L.length e (L.length - 1 - j))) 0
theorem backText_length (L : List UInt8) (e : Nat) : (backText L e).length = L.length := by simp [backText]
theorem backText_get (L : List UInt8) (e k : Nat) (h : k < L.length) (h' : L.length - 1 - k < (backText L e).length) : (backText L e)[L.length - 1 - k] = L.getD (idx e (rr (bN L) L.length e k)) 0 := by
  have q : (backText L e)[L.length - 1 - k]? = some (L.getD (idx e (rr (bN L) L.length e k)) 0) := by
    unfold backText
    rw [List.getElem?_map, List.getElem?_range (by omega), Option.map_some, show L.length - 1 - (L.length - 1 - k) = k from by omega]
  exact (List.getElem?_eq_some_iff.1 q).2

/-- The way from row 0 orders the rows as the suffixes are ordered. -/
theorem back_order {L : List UInt8} {e : Nat} (he : e ≤ L.length) (hne : ∀ j, j < L.length → rr (bN L) L.length e j ≠ e) : ∀ i j, i ≤ L.length → j ≤ L.length →
    (rr (bN L) L.length e i < rr (bN L) L.length e j ↔ sl (backText L e) (L.length - i) (L.length - j) = true) := by
  intro i
  induction i with
  | zero =>
    intro j _ hj
    have h0 : rr (bN L) L.length e 0 = 0 := rfl
    unfold sl
    rw [h0, Nat.sub_zero, List.drop_eq_nil_of_le (show (backText L e).length ≤ L.length by rw [backText_length]; exact Nat.le_refl _)]
    by_cases e0 : j = 0
    · subst e0
      rw [h0, Nat.sub_zero, List.drop_eq_nil_of_le (by rw [backText_length]; exact Nat.le_refl _)]
      exact ⟨fun h => by omega, fun h => by rw [bl_nil_right] at h; cases h⟩
    · obtain ⟨q, rfl⟩ : ∃ q, j = q + 1 := ⟨j - 1, by omega⟩
      rw [rr_succ, List.drop_eq_getElem_cons (show L.length - (q + 1) < (backText L e).length by rw [backText_length]; omega)]
      exact ⟨fun _ => rfl, fun _ => by omega⟩
  | succ i ih =>
    intro j hi hj
    by_cases e0 : j = 0
    · subst e0
      have h0 : rr (bN L) L.length e 0 = 0 := rfl
      unfold sl
      rw [h0, Nat.sub_zero, List.drop_eq_nil_of_le (show (backText L e).length ≤ L.length by rw [backText_length]; exact Nat.le_refl _), bl_nil_right]
      exact ⟨fun h => by omega, fun h => by cases h⟩
    · obtain ⟨q, rfl⟩ : ∃ q, j = q + 1 := ⟨j - 1, by omega⟩
      have li := rr_le (b := bN L) he (k := i) (fun j hj => hne j (by omega))
      have lq := rr_le (b := bN L) he (k := q) (fun j hj => hne j (by omega))
      have ni := hne i (by omega)
      have nq := hne q (by omega)
      have xi := idx_lt li he ni
      have xq := idx_lt lq he nq
      have hii := ih q (by omega) (by omega)
      rw [rr_succ, rr_succ]
      have h1 : 1 + rk (bN L) L.length (idx e (rr (bN L) L.length e i)) < 1 + rk (bN L) L.length (idx e (rr (bN L) L.length e q)) ↔
          rk (bN L) L.length (idx e (rr (bN L) L.length e i)) < rk (bN L) L.length (idx e (rr (bN L) L.length e q)) := by omega
      rw [h1, rk_lt_iff (bN L) L.length xi xq, idx_mono ni nq, hii]
      unfold sl
      rw [show L.length - (i + 1) = L.length - 1 - i from by omega, show L.length - (q + 1) = L.length - 1 - q from by omega]
      have bi : L.length - 1 - i < (backText L e).length := by rw [backText_length]; omega
      have bq : L.length - 1 - q < (backText L e).length := by rw [backText_length]; omega
      rw [List.drop_eq_getElem_cons bi, List.drop_eq_getElem_cons bq, bl_cons_iff, backText_get L e i (by omega) bi, backText_get L e q (by omega) bq,
        show L.length - 1 - i + 1 = L.length - i from by omega, show L.length - 1 - q + 1 = L.length - q from by omega]
      exact Iff.rfl

/-- If the way does not come to the END too early, it goes through the suffix array. -/
theorem back_rows {L : List UInt8} {e : Nat} (he : e ≤ L.length) (hne : ∀ j, j < L.length → rr (bN L) L.length e j ≠ e) {f : Nat → Nat} (F : IsSA (backText L e) f) : ∀ k, k ≤ L.length → f (rr (bN L) L.length e k) = L.length - k := by
  have hl := backText_length L e
  have P : ∀ x, x ≤ L.length → posOf f x (L.length + 1) ≤ L.length ∧ f (posOf f x (L.length + 1)) = x := fun x hx => by
    have := F.pos (x := x) (by rw [hl]; exact hx)
    rwa [hl] at this
  have key := order_eq (n := L.length + 1) (p := rr (bN L) L.length e) (q := fun k => posOf f (L.length - k) (L.length + 1))
    (fun i hi => by have := rr_le (b := bN L) he (k := i) (fun j hj => hne j (by omega)); omega)
    (fun i hi => by have := (P (L.length - i) (by omega)).1; show posOf f (L.length - i) (L.length + 1) < L.length + 1; omega)
    (fun i j hi hj h => by
      rcases Nat.lt_trichotomy i j with d | d | d
      · exact absurd h (rr_inj he hne i j d (by omega))
      · exact d
      · exact absurd h.symm (rr_inj he hne j i d (by omega)))
    (fun i j hi hj h => by
      have h1 := (P (L.length - i) (by omega)).2
      have h2 := (P (L.length - j) (by omega)).2
      have h3 : posOf f (L.length - i) (L.length + 1) = posOf f (L.length - j) (L.length + 1) := h
      rw [h3, h2] at h1; omega)
    (fun i j hi hj => by
      rw [back_order he hne i j (by omega) (by omega)]
      have h1 := P (L.length - i) (by omega)
      have h2 := P (L.length - j) (by omega)
      have h3 := F.lt_iff (i := posOf f (L.length - i) (L.length + 1)) (j := posOf f (L.length - j) (L.length + 1)) (by rw [hl]; exact h1.1) (by rw [hl]; exact h2.1)
      rw [h1.2, h2.2] at h3
      exact h3)
  intro k hk
  rw [key k (by omega)]
  exact (P (L.length - k) (by omega)).2
theorem back_end {L : List UInt8} {e : Nat} (he : e ≤ L.length) (hne : ∀ j, j < L.length → rr (bN L) L.length e j ≠ e) : rr (bN L) L.length e L.length = e := by
  obtain ⟨k, hk, ek⟩ := surj_of_inj (L.length + 1) (rr (bN L) L.length e) (fun i hi => by have := rr_le (b := bN L) he (k := i) (fun j hj => hne j (by omega)); omega)
    (fun i j hi hj h => by
      rcases Nat.lt_trichotomy i j with d | d | d
      · exact absurd h (rr_inj he hne i j d (by omega))
      · exact d
      · exact absurd h.symm (rr_inj he hne j i d (by omega))) e (by omega)
  by_cases h : k = L.length
  · subst h; exact ek
  · exact absurd ek (hne k (by omega))

/-- The bytes ahead of the rows, from what stands ahead of each. -/
theorem pre_take {t L : List UInt8} {f : Nat → Nat} {e : Nat} (he : e ≤ L.length) (h0 : ∀ x, x ≤ L.length → (f x = 0 ↔ x = e)) (h1 : ∀ x, x ≤ L.length → x ≠ e → t.getD (f x - 1) 0 = L.getD (idx e x) 0) :
    ∀ m, m ≤ L.length + 1 → pre t f m = L.take (if m ≤ e then m else m - 1) ∧ endOf f m = if m ≤ e then 0 else e := by
  intro m
  induction m with
  | zero => intro _; rw [if_pos (Nat.zero_le _), if_pos (Nat.zero_le _)]; exact ⟨by simp [pre], rfl⟩
  | succ m ih =>
    intro hm
    obtain ⟨i1, i2⟩ := ih (by omega)
    by_cases c : m = e
    · have z : f m = 0 := (h0 m (by omega)).2 c
      rw [pre_zero z, i1, if_pos (show m ≤ e by omega), if_neg (show ¬ m + 1 ≤ e by omega), if_neg (show ¬ m + 1 ≤ e by omega)]
      refine ⟨rfl, ?_⟩
      simp only [endOf]; rw [if_pos z]; exact c
    · have z : f m ≠ 0 := fun h => c ((h0 m (by omega)).1 h)
      have hg := h1 m (by omega) c
      have hil := idx_lt (show m ≤ L.length by omega) he c
      rw [pre_next z, i1, hg]
      have hend : endOf f (m + 1) = endOf f m := by simp only [endOf]; rw [if_neg z]
      rw [hend, i2]
      by_cases d : m < e
      · rw [if_pos (show m ≤ e by omega), if_pos (show m + 1 ≤ e by omega), if_pos (show m ≤ e by omega), if_pos (show m + 1 ≤ e by omega)]
        refine ⟨?_, rfl⟩
        have hx : idx e m = m := by unfold idx; rw [if_neg (by omega)]
        rw [hx, List.take_succ_eq_append_getElem (show m < L.length by omega), List.getD_eq_getElem?_getD, List.getElem?_eq_getElem (show m < L.length by omega), Option.getD_some]
      · rw [if_neg (show ¬ m ≤ e by omega), if_neg (show ¬ m + 1 ≤ e by omega), if_neg (show ¬ m ≤ e by omega), if_neg (show ¬ m + 1 ≤ e by omega)]
        refine ⟨?_, rfl⟩
        have hx : idx e m = m - 1 := by unfold idx; rw [if_pos (by omega)]
        rw [hx, show m + 1 - 1 = (m - 1) + 1 from by omega, List.take_succ_eq_append_getElem (show m - 1 < L.length by omega), List.getD_eq_getElem?_getD, List.getElem?_eq_getElem (show m - 1 < L.length by omega), Option.getD_some]

/-- What comes back has this transform. -/
theorem back_transform {L : List UInt8} {e : Nat} (he : e ≤ L.length) (hne : ∀ j, j < L.length → rr (bN L) L.length e j ≠ e) {f : Nat → Nat} (F : IsSA (backText L e) f) :
    pre (backText L e) f (L.length + 1) = L ∧ endOf f (L.length + 1) = e := by
  have R := back_rows he hne F
  have E := back_end he hne
  have hl := backText_length L e
  have sur := surj_of_inj (L.length + 1) (rr (bN L) L.length e) (fun i hi => by have := rr_le (b := bN L) he (k := i) (fun j hj => hne j (by omega)); omega)
    (fun i j hi hj h => by
      rcases Nat.lt_trichotomy i j with d | d | d
      · exact absurd h (rr_inj he hne i j d (by omega))
      · exact d
      · exact absurd h.symm (rr_inj he hne j i d (by omega)))
  have h := pre_take (t := backText L e) (L := L) (f := f) he (fun x hx => by
      obtain ⟨k, hk, rfl⟩ := sur x (by omega)
      rw [R k (by omega)]
      constructor
      · intro h; rw [show k = L.length from by omega]; exact E
      · intro h
        by_cases c : k = L.length
        · omega
        · exact absurd h (hne k (by omega)))
    (fun x hx hxe => by
      obtain ⟨k, hk, rfl⟩ := sur x (by omega)
      have hkl : k < L.length := by
        by_cases c : k = L.length
        · subst c; exact absurd E hxe
        · omega
      rw [R k (by omega), show L.length - k - 1 = L.length - 1 - k from by omega, List.getD_eq_getElem?_getD, List.getElem?_eq_getElem (show L.length - 1 - k < (backText L e).length by rw [hl]; omega), Option.getD_some, backText_get L e k hkl])
    (L.length + 1) (Nat.le_refl _)
  rw [if_neg (by omega), if_neg (by omega)] at h
  refine ⟨?_, h.2⟩
  rw [h.1, Nat.add_sub_cancel, List.take_length]

end Go.Proofs.Ytkebgnpifmcmaaa
