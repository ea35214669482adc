/- Counting: how many of the first m values are x, or less than x; the rank of a place among all, by value and then by place. Plain mathematics. -/
namespace Go.Proofs.Ytkebgnpifmcmaaa

def cnt (f : Nat → Nat) (x : Nat) : Nat → Nat
  | 0 => 0
  | m + 1 => cnt f x m + (if f m = x then 1 else 0)
def less (f : Nat → Nat) (x : Nat) : Nat → Nat
  | 0 => 0
  | m + 1 => less f x m + (if f m < x then 1 else 0)
def rk (f : Nat → Nat) (n i : Nat) : Nat := less f (f i) n + cnt f (f i) i

theorem cnt_succ (f : Nat → Nat) (x m : Nat) : cnt f x (m + 1) = cnt f x m + (if f m = x then 1 else 0) := rfl
theorem cnt_same (f : Nat → Nat) (m : Nat) : cnt f (f m) (m + 1) = cnt f (f m) m + 1 := by simp [cnt]
theorem cnt_other (f : Nat → Nat) (x m : Nat) (h : f m ≠ x) : cnt f x (m + 1) = cnt f x m := by simp [cnt, h]
theorem cnt_le (f : Nat → Nat) (x m : Nat) : cnt f x m ≤ m := by
  induction m with
  | zero => simp [cnt]
  | succ m ih => simp only [cnt]; split <;> omega
theorem less_le (f : Nat → Nat) (x m : Nat) : less f x m ≤ m := by
  induction m with
  | zero => simp [less]
  | succ m ih => simp only [less]; split <;> omega
theorem less_zero (f : Nat → Nat) (m : Nat) : less f 0 m = 0 := by
  induction m with
  | zero => rfl
  | succ m ih => simp [less, ih]
theorem cnt_mono (f : Nat → Nat) (x : Nat) {i m : Nat} (h : i ≤ m) : cnt f x i ≤ cnt f x m := by
  induction m with
  | zero => have : i = 0 := by omega
            subst this; exact Nat.le_refl _
  | succ m ih =>
    by_cases e : i = m + 1
    · subst e; exact Nat.le_refl _
    · have := ih (by omega); simp only [cnt]; omega
theorem less_succ (f : Nat → Nat) (x m : Nat) : less f (x + 1) m = less f x m + cnt f x m := by
  induction m with
  | zero => rfl
  | succ m ih =>
    simp only [less, cnt, ih]
    by_cases h1 : f m < x
    · rw [if_pos (by omega), if_pos h1, if_neg (by omega)]; omega
    · by_cases h2 : f m = x
      · rw [if_pos (by omega), if_neg h1, if_pos h2]; omega
      · rw [if_neg (by omega), if_neg h1, if_neg h2]; omega
theorem less_mono (f : Nat → Nat) {x y : Nat} (m : Nat) (h : x ≤ y) : less f x m ≤ less f y m := by
  induction y with
  | zero => have : x = 0 := by omega
            subst this; exact Nat.le_refl _
  | succ y ih =>
    by_cases e : x = y + 1
    · subst e; exact Nat.le_refl _
    · have := ih (by omega); rw [less_succ]; omega
theorem cnt_lt (f : Nat → Nat) (n i : Nat) (h : i < n) : cnt f (f i) i < cnt f (f i) n := by
  have h1 := cnt_mono f (f i) (show i + 1 ≤ n from h)
  have h2 := cnt_same f i
  omega
theorem rk_lt_next (f : Nat → Nat) (n i : Nat) (h : i < n) : rk f n i < less f (f i + 1) n := by
  have := cnt_lt f n i h
  rw [less_succ]; unfold rk; omega
theorem rk_lt (f : Nat → Nat) (n i : Nat) (h : i < n) : rk f n i < n :=
  Nat.lt_of_lt_of_le (rk_lt_next f n i h) (less_le _ _ _)
theorem rk_mono (f : Nat → Nat) (n : Nat) {i j : Nat} (hi : i < n) (h : f i < f j) : rk f n i < rk f n j := by
  have h1 := rk_lt_next f n i hi
  have h2 := less_mono f n (show f i + 1 ≤ f j from h)
  have h3 : less f (f j) n ≤ rk f n j := by unfold rk; omega
  omega
theorem rk_mono_eq (f : Nat → Nat) (n : Nat) {i j : Nat} (hij : i < j) (h : f i = f j) : rk f n i < rk f n j := by
  unfold rk
  have h1 := cnt_mono f (f i) (show i + 1 ≤ j from hij)
  have h2 := cnt_same f i
  rw [← h]; omega
/-- The rank is strictly growing in (value, place). -/
theorem rk_lt_iff (f : Nat → Nat) (n : Nat) {i j : Nat} (hi : i < n) (hj : j < n) : rk f n i < rk f n j ↔ f i < f j ∨ (f i = f j ∧ i < j) := by
  constructor
  · intro h
    rcases Nat.lt_trichotomy (f i) (f j) with e | e | e
    · exact .inl e
    · refine .inr ⟨e, ?_⟩
      rcases Nat.lt_trichotomy i j with d | d | d
      · exact d
      · subst d; omega
      · have := rk_mono_eq f n d e.symm; omega
    · have := rk_mono f n hj e; omega
  · rintro (h | ⟨h, hlt⟩)
    · exact rk_mono f n hi h
    · exact rk_mono_eq f n hlt h
theorem rk_inj (f : Nat → Nat) (n : Nat) {i j : Nat} (hi : i < n) (hj : j < n) (h : rk f n i = rk f n j) : i = j := by
  rcases Nat.lt_trichotomy i j with d | d | d
  · exfalso
    rcases Nat.lt_trichotomy (f i) (f j) with e | e | e
    · have := rk_mono f n hi e; omega
    · have := rk_mono_eq f n d e; omega
    · have := rk_mono f n hj e; omega
  · exact d
  · exfalso
    rcases Nat.lt_trichotomy (f i) (f j) with e | e | e
    · have := rk_mono f n hi e; omega
    · have := rk_mono_eq f n d e.symm; omega
    · have := rk_mono f n hj e; omega
theorem less_of_cnt {f g : Nat → Nat} {n : Nat} (h : ∀ x, cnt f x n = cnt g x n) (x : Nat) : less f x n = less g x n := by
  induction x with
  | zero => rw [less_zero, less_zero]
  | succ x ih => rw [less_succ, less_succ, ih, h]
theorem cnt_congr {f g : Nat → Nat} {n : Nat} (h : ∀ i, i < n → f i = g i) (x : Nat) : cnt f x n = cnt g x n := by
  induction n with
  | zero => rfl
  | succ n ih => simp only [cnt]; rw [ih (fun i hi => h i (by omega)), h n (by omega)]

/-- Pigeonhole: a one to one map of the first n places into themselves reaches every one of them. -/
theorem surj_of_inj : ∀ (n : Nat) (o : Nat → Nat), (∀ i, i < n → o i < n) → (∀ i j, i < n → j < n → o i = o j → i = j) → ∀ x, x < n → ∃ i, i < n ∧ o i = x := by
  intro n
  induction n with
  | zero => intro o _ _ x hx; omega
  | succ n ih =>
    intro o hb hi x hx
    -- the last value is swapped with n
    let o' : Nat → Nat := fun i => if o i = n then o n else o i
    have hb' : ∀ i, i < n → o' i < n := by
      intro i hin
      show (if o i = n then o n else o i) < n
      split
      · next h =>
        have h1 := hb n (by omega)
        have h2 : o n ≠ n := fun h2 => by have := hi i n (by omega) (by omega) (h.trans h2.symm); omega
        omega
      · next h => have := hb i (by omega); omega
    have hi' : ∀ i j, i < n → j < n → o' i = o' j → i = j := by
      intro i j hin hjn h
      have h' : (if o i = n then o n else o i) = (if o j = n then o n else o j) := h
      by_cases a : o i = n
      · by_cases b : o j = n
        · exact hi i j (by omega) (by omega) (a.trans b.symm)
        · rw [if_pos a, if_neg b] at h'
          have := hi n j (by omega) (by omega) h'; omega
      · by_cases b : o j = n
        · rw [if_neg a, if_pos b] at h'
          have := hi i n (by omega) (by omega) h'; omega
        · rw [if_neg a, if_neg b] at h'
          exact hi i j (by omega) (by omega) h'
    by_cases hxn : x = n
    · subst hxn
      by_cases e : o x = x
      · exact ⟨x, by omega, e⟩
      · have hon := hb x (by omega)
        obtain ⟨i, hin, hoi⟩ := ih o' hb' hi' (o x) (by omega)
        have hoi' : (if o i = x then o x else o i) = o x := hoi
        by_cases a : o i = x
        · exact ⟨i, by omega, a⟩
        · rw [if_neg a] at hoi'
          have := hi i x (by omega) (by omega) hoi'; omega
    · by_cases e : o n = x
      · exact ⟨n, by omega, e⟩
      · obtain ⟨i, hin, hoi⟩ := ih o' hb' hi' x (by omega)
        have hoi' : (if o i = n then o n else o i) = x := hoi
        by_cases a : o i = n
        · rw [if_pos a] at hoi'; exact absurd hoi' e
        · rw [if_neg a] at hoi'; exact ⟨i, by omega, hoi'⟩

/-- A permutation of the places changes no count. -/
theorem cnt_perm : ∀ (n : Nat) (c o : Nat → Nat), (∀ i, i < n → o i < n) → (∀ i j, i < n → j < n → o i = o j → i = j) → ∀ x, cnt (fun i => c (o i)) x n = cnt c x n := by
  intro n
  induction n with
  | zero => intros; rfl
  | succ n ih =>
    intro c o hb hi x
    let o' : Nat → Nat := fun i => if o i = n then o n else o i
    have hb' : ∀ i, i < n → o' i < n := by
      intro i hin
      show (if o i = n then o n else o i) < n
      split
      · next h =>
        have h1 := hb n (by omega)
        have h2 : o n ≠ n := fun h2 => by have := hi i n (by omega) (by omega) (h.trans h2.symm); omega
        omega
      · next h => have := hb i (by omega); omega
    have hi' : ∀ i j, i < n → j < n → o' i = o' j → i = j := by
      intro i j hin hjn h
      have h' : (if o i = n then o n else o i) = (if o j = n then o n else o j) := h
      by_cases a : o i = n
      · by_cases b : o j = n
        · exact hi i j (by omega) (by omega) (a.trans b.symm)
        · rw [if_pos a, if_neg b] at h'
          have := hi n j (by omega) (by omega) h'; omega
      · by_cases b : o j = n
        · rw [if_neg a, if_pos b] at h'
          have := hi i n (by omega) (by omega) h'; omega
        · rw [if_neg a, if_neg b] at h'
          exact hi i j (by omega) (by omega) h'
    have hih := ih c o' hb' hi' x
    show cnt (fun i => c (o i)) x n + (if c (o n) = x then 1 else 0) = cnt c x n + (if c n = x then 1 else 0)
    by_cases e : o n = n
    · rw [e, ← hih]
      congr 1
      refine cnt_congr (fun i hin => ?_) x
      show c (o i) = c (if o i = n then o n else o i)
      rw [if_neg]; intro h; have := hi i n (by omega) (by omega) (h.trans e.symm); omega
    · obtain ⟨q, hq, hoq⟩ := surj_of_inj (n + 1) o hb hi n (by omega)
      have hqn : q < n := by
        by_cases h : q = n
        · subst h; exact absurd hoq e
        · omega
      -- the counts of c (o i) and c (o' i) part at q alone
      have key : ∀ m, m ≤ n → cnt (fun i => c (o i)) x m + (if q < m then (if c (o n) = x then 1 else 0) else 0) = cnt (fun i => c (o' i)) x m + (if q < m then (if c n = x then 1 else 0) else 0) := by
        intro m
        induction m with
        | zero => intro _; simp [cnt]
        | succ m ihm =>
          intro hm
          have h1 := ihm (by omega)
          simp only [cnt]
          by_cases e2 : m = q
          · subst e2
            have h3 : o' m = o n := by show (if o m = n then o n else o m) = o n; rw [if_pos hoq]
            simp only [h3, hoq]
            rw [if_pos (show m < m + 1 by omega), if_pos (show m < m + 1 by omega)]
            rw [if_neg (show ¬ m < m by omega), if_neg (show ¬ m < m by omega)] at h1
            omega
          · have h3 : o' m = o m := by
              show (if o m = n then o n else o m) = o m
              rw [if_neg]; intro h; exact e2 (hi m q (by omega) (by omega) (h.trans hoq.symm))
            simp only [h3]
            by_cases l : q < m
            · rw [if_pos l, if_pos l] at h1
              rw [if_pos (show q < m + 1 by omega), if_pos (show q < m + 1 by omega)]; omega
            · rw [if_neg l, if_neg l] at h1
              rw [if_neg (show ¬ q < m + 1 by omega), if_neg (show ¬ q < m + 1 by omega)]; omega
      have hk := key n (Nat.le_refl _)
      rw [if_pos hqn, if_pos hqn] at hk
      rw [← hih]; omega

end Go.Proofs.Ytkebgnpifmcmaaa
