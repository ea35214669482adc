import Derived.Test.YtkebgnpifmcmaabGreatGC
import Derived.StillTail
/- Edits. Plain mathematics. -/
namespace Go.Proofs.YtkebgnpifmcmaabGreat

/-- y comes of x by n edits, from the left to the right: in the least relation that has these five ways. -/
def Ed (x y : List UInt8) (n : Nat) : Prop := ∀ R : List UInt8 → List UInt8 → Nat → Prop, R [] [] 0 → (∀ x y n a, R x y n → R (a :: x) (a :: y) n) → (∀ x y n a b, R x y n → R (a :: x) (b :: y) (n + 1)) → (∀ x y n a, R x y n → R (a :: x) y (n + 1)) → (∀ x y n b, R x y n → R x (b :: y) (n + 1)) → R x y n
theorem Ed.nil : Ed [] [] 0 := fun _ h _ _ _ _ => h
theorem Ed.keep {x y : List UInt8} {n : Nat} (a : UInt8) (h : Ed x y n) : Ed (a :: x) (a :: y) n := fun R h1 h2 h3 h4 h5 => h2 _ _ _ a (h R h1 h2 h3 h4 h5)
theorem Ed.sub {x y : List UInt8} {n : Nat} (a b : UInt8) (h : Ed x y n) : Ed (a :: x) (b :: y) (n + 1) := fun R h1 h2 h3 h4 h5 => h3 _ _ _ a b (h R h1 h2 h3 h4 h5)
theorem Ed.del {x y : List UInt8} {n : Nat} (a : UInt8) (h : Ed x y n) : Ed (a :: x) y (n + 1) := fun R h1 h2 h3 h4 h5 => h4 _ _ _ a (h R h1 h2 h3 h4 h5)
theorem Ed.ins {x y : List UInt8} {n : Nat} (b : UInt8) (h : Ed x y n) : Ed x (b :: y) (n + 1) := fun R h1 h2 h3 h4 h5 => h5 _ _ _ b (h R h1 h2 h3 h4 h5)
theorem Ed.ind {motive : ∀ x y n, Ed x y n → Prop} (nil : motive [] [] 0 Ed.nil)
    (keep : ∀ {x y : List UInt8} {n : Nat} (a : UInt8) (h : Ed x y n), motive x y n h → motive _ _ _ (Ed.keep a h))
    (sub : ∀ {x y : List UInt8} {n : Nat} (a b : UInt8) (h : Ed x y n), motive x y n h → motive _ _ _ (Ed.sub a b h))
    (del : ∀ {x y : List UInt8} {n : Nat} (a : UInt8) (h : Ed x y n), motive x y n h → motive _ _ _ (Ed.del a h))
    (ins : ∀ {x y : List UInt8} {n : Nat} (b : UInt8) (h : Ed x y n), motive x y n h → motive _ _ _ (Ed.ins b h))
    {x y : List UInt8} {n : Nat} (h : Ed x y n) : motive x y n h := by
  have hh := h (fun x y n => ∃ h : Ed x y n, motive x y n h) ⟨_, nil⟩ (fun _ _ _ a ⟨h, k⟩ => ⟨_, keep a h k⟩) (fun _ _ _ a b ⟨h, k⟩ => ⟨_, sub a b h k⟩) (fun _ _ _ a ⟨h, k⟩ => ⟨_, del a h k⟩) (fun _ _ _ b ⟨h, k⟩ => ⟨_, ins b h k⟩)
  obtain ⟨_, k⟩ := hh
  exact k
theorem Ed.append {x y x' y' : List UInt8} {n n' : Nat} (h : Ed x y n) (h' : Ed x' y' n') : Ed (x ++ x') (y ++ y') (n + n') := by
  induction h using Ed.ind with
  | nil => simpa using h'
  | keep a _ ih => exact .keep a ih
  | sub a b _ ih => rw [Nat.add_right_comm]; exact .sub a b ih
  | del a _ ih => rw [Nat.add_right_comm]; exact .del a ih
  | ins b _ ih => rw [Nat.add_right_comm]; exact .ins b ih
theorem Ed.rev {x y : List UInt8} {n : Nat} (h : Ed x y n) : Ed x.reverse y.reverse n := by
  induction h using Ed.ind with
  | nil => exact .nil
  | keep a _ ih => rw [List.reverse_cons, List.reverse_cons]; exact ih.append (.keep a .nil)
  | sub a b _ ih => rw [List.reverse_cons, List.reverse_cons]; exact ih.append (.sub a b .nil)
  | del a _ ih =>
    rw [List.reverse_cons]
    have := ih.append (.del a .nil)
    simpa using this
  | ins b _ ih =>
    rw [List.reverse_cons]
    have := ih.append (.ins b .nil)
    simpa using this
theorem Ed.rev_iff {x y : List UInt8} {n : Nat} : Ed x.reverse y.reverse n ↔ Ed x y n :=
  ⟨fun h => by have := h.rev; rwa [List.reverse_reverse, List.reverse_reverse] at this, Ed.rev⟩
theorem Ed.refl (x : List UInt8) : Ed x x 0 := by
  induction x with
  | nil => exact .nil
  | cons a x ih => exact .keep a ih
theorem Ed.ofNil (y : List UInt8) : Ed [] y y.length := by
  induction y with
  | nil => exact .nil
  | cons b y ih => exact .ins b ih
theorem Ed.toNil (x : List UInt8) : Ed x [] x.length := by
  induction x with
  | nil => exact .nil
  | cons a x ih => exact .del a ih
theorem Ed.nil_left {y : List UInt8} {n : Nat} (h : Ed [] y n) : n = y.length := by
  generalize hx : ([] : List UInt8) = x at h
  induction h using Ed.ind with
  | nil => rfl
  | keep a _ _ => cases hx
  | sub a b _ _ => cases hx
  | del a _ _ => cases hx
  | ins b _ ih => rw [ih hx, List.length_cons]
theorem Ed.nil_right {x : List UInt8} {n : Nat} (h : Ed x [] n) : n = x.length := by
  generalize hy : ([] : List UInt8) = y at h
  induction h using Ed.ind with
  | nil => rfl
  | keep a _ _ => cases hy
  | sub a b _ _ => cases hy
  | del a _ ih => rw [ih hy, List.length_cons]
  | ins b _ _ => cases hy
theorem Ed.length {x y : List UInt8} {n : Nat} (h : Ed x y n) : y.length ≤ x.length + n ∧ x.length ≤ y.length + n := by
  induction h using Ed.ind with
  | nil => simp
  | keep a _ ih => simp only [List.length_cons]; omega
  | sub a b _ ih => simp only [List.length_cons]; omega
  | del a _ ih => simp only [List.length_cons]; omega
  | ins b _ ih => simp only [List.length_cons]; omega
theorem Ed.cons_cons {x y : List UInt8} {a b : UInt8} {n : Nat} (h : Ed (a :: x) (b :: y) n) : (a = b ∧ Ed x y n) ∨ ∃ m, n = m + 1 ∧ (Ed x y m ∨ Ed x (b :: y) m ∨ Ed (a :: x) y m) := by
  generalize hx : a :: x = X at h
  generalize hy : b :: y = Y at h
  induction h using Ed.ind with
  | nil => cases hx
  | keep c h _ => cases hx; cases hy; exact .inl ⟨rfl, h⟩
  | sub c d h _ => cases hx; cases hy; exact .inr ⟨_, rfl, .inl h⟩
  | del c h _ => cases hx; subst hy; exact .inr ⟨_, rfl, .inr (.inl h)⟩
  | ins d h _ => cases hy; subst hx; exact .inr ⟨_, rfl, .inr (.inr h)⟩

/-- How many edits, at least. -/
def lev : List UInt8 → List UInt8 → Nat
  | [], y => y.length
  | a :: x, [] => (a :: x).length
  | a :: x, b :: y => min (lev x y + (if a = b then 0 else 1)) (min (lev x (b :: y) + 1) (lev (a :: x) y + 1))
theorem lev_nil (y : List UInt8) : lev [] y = y.length := by cases y <;> simp [lev]
theorem lev_nil_right (x : List UInt8) : lev x [] = x.length := by cases x <;> simp [lev]
theorem lev_cons (a b : UInt8) (x y : List UInt8) : lev (a :: x) (b :: y) = min (lev x y + (if a = b then 0 else 1)) (min (lev x (b :: y) + 1) (lev (a :: x) y + 1)) := by rw [lev]
theorem lev_ed : ∀ (x y : List UInt8), Ed x y (lev x y) := by
  intro x
  induction x with
  | nil => intro y; rw [lev_nil]; exact Ed.ofNil y
  | cons a x ihx =>
    intro y
    induction y with
    | nil => rw [lev_nil_right]; exact Ed.toNil _
    | cons b y ihy =>
      rw [lev_cons]
      have h1 : Ed (a :: x) (b :: y) (lev x y + (if a = b then 0 else 1)) := by
        by_cases e : a = b
        · subst e; rw [if_pos rfl]; exact .keep a (ihx y)
        · rw [if_neg e]; exact .sub a b (ihx y)
      have h2 : Ed (a :: x) (b :: y) (lev x (b :: y) + 1) := .del a (ihx (b :: y))
      have h3 : Ed (a :: x) (b :: y) (lev (a :: x) y + 1) := .ins b ihy
      rcases Nat.le_total (lev x (b :: y) + 1) (lev (a :: x) y + 1) with h | h
      · rw [Nat.min_eq_left h]
        rcases Nat.le_total (lev x y + (if a = b then 0 else 1)) (lev x (b :: y) + 1) with g | g
        · rw [Nat.min_eq_left g]; exact h1
        · rw [Nat.min_eq_right g]; exact h2
      · rw [Nat.min_eq_right h]
        rcases Nat.le_total (lev x y + (if a = b then 0 else 1)) (lev (a :: x) y + 1) with g | g
        · rw [Nat.min_eq_left g]; exact h1
        · rw [Nat.min_eq_right g]; exact h3
theorem lev_le {x y : List UInt8} {n : Nat} (h : Ed x y n) : lev x y ≤ n := by
  induction h using Ed.ind with
  | nil => simp [lev]
  | keep a _ ih => rw [lev_cons, if_pos rfl]; omega
  | @sub x y n a b _ ih => rw [lev_cons]; split <;> omega
  | @del x y n a _ ih =>
    cases y with
    | nil => rw [lev_nil_right] at ih ⊢; simp only [List.length_cons]; omega
    | cons b y => rw [lev_cons]; omega
  | @ins x y n b _ ih =>
    cases x with
    | nil => rw [lev_nil] at ih ⊢; simp only [List.length_cons]; omega
    | cons a x => rw [lev_cons]; omega
theorem lev_iff (x y : List UInt8) (k : Nat) : lev x y ≤ k ↔ ∃ n, n ≤ k ∧ Ed x y n :=
  ⟨fun h => ⟨_, h, lev_ed x y⟩, fun ⟨_, h, he⟩ => Nat.le_trans (lev_le he) h⟩
theorem lev_rev (x y : List UInt8) : lev x.reverse y.reverse = lev x y :=
  Nat.le_antisymm (lev_le (lev_ed x y).rev) (by have := lev_le (lev_ed x.reverse y.reverse).rev; rwa [List.reverse_reverse, List.reverse_reverse] at this)
theorem lev_snoc (a b : UInt8) (x y : List UInt8) : lev (x ++ [a]) (y ++ [b]) = min (lev x y + (if a = b then 0 else 1)) (min (lev (x ++ [a]) y + 1) (lev x (y ++ [b]) + 1)) := by
  rw [← lev_rev (x ++ [a]) (y ++ [b]), ← lev_rev x y, ← lev_rev (x ++ [a]) y, ← lev_rev x (y ++ [b])]
  simp only [List.reverse_append, List.reverse_cons, List.reverse_nil, List.nil_append, List.singleton_append]
  rw [lev_cons]
  congr 1
  exact Nat.min_comm _ _
theorem lev_length (x y : List UInt8) : y.length ≤ x.length + lev x y ∧ x.length ≤ y.length + lev x y := (lev_ed x y).length

/-- A pattern stands within k edits at a place. -/
def nearE (t P : List UInt8) (k i : Nat) : Prop := ∃ j, i ≤ j ∧ j ≤ t.length ∧ lev P ((t.take j).drop i) ≤ k
/-- The bytes that come of a pattern by few edits are few. -/
theorem near_len {t P : List UInt8} {k i j : Nat} (hj : j ≤ t.length) (h : lev P ((t.take j).drop i) ≤ k) : j ≤ i + P.length + k := by
  have := (lev_length P ((t.take j).drop i)).1
  rw [List.length_drop, List.length_take] at this
  omega

/-- One more byte of the text, the pattern's beginnings as before: a row of the table out of the one before. -/
theorem lev_take (P y : List UInt8) (b : UInt8) (k : Nat) (h : k < P.length) :
    lev (P.take (k + 1)) (y ++ [b]) = min (lev (P.take k) y + (if P.getD k 0 = b then 0 else 1)) (min (lev (P.take (k + 1)) y + 1) (lev (P.take k) (y ++ [b]) + 1)) := by
  have e : P.take (k + 1) = P.take k ++ [P.getD k 0] := by
    rw [List.take_succ_eq_append_getElem h, List.getD_eq_getElem?_getD, List.getElem?_eq_getElem h]; rfl
  rw [e, lev_snoc]
theorem lev_take_zero (P y : List UInt8) (b : UInt8) : lev (P.take 0) (y ++ [b]) = lev (P.take 0) y + 1 := by
  rw [List.take_zero, lev_nil, lev_nil, List.length_append, List.length_singleton]
/-- Wrong bytes are edits. -/
theorem Ed.wrong : ∀ (x y : List UInt8), x.length = y.length → ∃ n, n ≤ (x.zip y).countP (fun p => p.1 != p.2) ∧ Ed x y n := by
  intro x
  induction x with
  | nil => intro y h; cases y with
    | nil => exact ⟨0, Nat.zero_le _, .nil⟩
    | cons b y => simp at h
  | cons a x ih =>
    intro y h
    cases y with
    | nil => simp at h
    | cons b y =>
      obtain ⟨n, hn, he⟩ := ih y (by simpa using h)
      by_cases e : a = b
      · subst e
        exact ⟨n, by simpa using hn, .keep a he⟩
      · refine ⟨n + 1, ?_, .sub a b he⟩
        rw [List.zip_cons_cons, List.countP_cons_of_pos (by simpa using e)]
        omega
end Go.Proofs.YtkebgnpifmcmaabGreat

/- Words of bits, and the table of the beginnings that a piece comes of. Plain mathematics. -/
namespace Go.Proofs.YtkebgnpifmcmaabGreat

/-- A word whose bits these are. -/
def wd (F : Nat → Bool) : Nat := ob F 64
theorem wd_lt (F : Nat → Bool) : wd F < 2 ^ 64 := ob_lt F 64
theorem wd_bit (F : Nat → Bool) (i : Nat) : (wd F).testBit i = (decide (i < 64) && F i) := ob_bit F 64 i
theorem wd_congr {F G : Nat → Bool} (h : ∀ i, i < 64 → F i = G i) : wd F = wd G := by
  apply Nat.eq_of_testBit_eq
  intro i
  rw [wd_bit, wd_bit]
  by_cases hi : i < 64
  · rw [h i hi]
  · simp [hi]
theorem wd_or (F G : Nat → Bool) : wd F ||| wd G = wd (fun i => F i || G i) := by
  apply Nat.eq_of_testBit_eq
  intro i
  rw [Nat.testBit_or, wd_bit, wd_bit, wd_bit]
  cases decide (i < 64) <;> simp
theorem wd_and (F G : Nat → Bool) : wd F &&& wd G = wd (fun i => F i && G i) := by
  apply Nat.eq_of_testBit_eq
  intro i
  rw [Nat.testBit_and, wd_bit, wd_bit, wd_bit]
  cases decide (i < 64) <;> simp
/-- One place up. -/
def up (F : Nat → Bool) : Nat → Bool := fun i => decide (0 < i) && F (i - 1)
theorem wd_up (F : Nat → Bool) : wd F * 2 % 2 ^ 64 = wd (up F) := by
  apply Nat.eq_of_testBit_eq
  intro i
  rw [Nat.testBit_mod_two_pow, wd_bit, show wd F * 2 = wd F * 2 ^ 1 from rfl, Nat.testBit_mul_two_pow, wd_bit, up]
  by_cases h1 : 1 ≤ i
  · by_cases h2 : i < 64
    · simp [h1, h2, show 0 < i by omega, show i - 1 < 64 by omega]
    · simp [h2]
  · simp [h1, show ¬ 0 < i by omega]
theorem wd_none : wd (fun _ => false) = 0 := by
  apply Nat.eq_of_testBit_eq
  intro i
  rw [wd_bit, Nat.zero_testBit, Bool.and_false]
theorem wd_zero (F : Nat → Bool) : wd F = 0 ↔ ∀ i, i < 64 → F i = false := by
  constructor
  · intro h i hi
    have := wd_bit F i
    rw [h, Nat.zero_testBit, decide_eq_true hi, Bool.true_and] at this
    exact this.symm
  · intro h
    rw [← wd_none]
    exact wd_congr h
theorem wd_one (m : Nat) (h : m < 64) : wd (fun i => decide (i = m)) = 2 ^ m := by
  apply Nat.eq_of_testBit_eq
  intro i
  rw [wd_bit, Nat.testBit_two_pow]
  by_cases e : i = m
  · subst e; simp [h]
  · simp [e, Ne.symm e]
theorem wd_has (F : Nat → Bool) (m : Nat) (h : m < 64) : wd F &&& 2 ^ m = if F m then 2 ^ m else 0 := by
  rw [← wd_one m h, wd_and]
  split
  · rename_i hf
    apply wd_congr
    intro i _
    by_cases e : i = m
    · rw [e, hf]; rfl
    · simp [e]
  · rename_i hf
    rw [wd_zero]
    intro i _
    by_cases e : i = m
    · rw [e]; simp at hf; simp [hf]
    · simp [e]

/-- Behind the pattern's first bytes: one more of them, which is this one. -/
def hv (P : List UInt8) (c : UInt8) (j : Nat) : Bool := decide (P[j]? = some c)
/-- One edit more: from the old ones, or from the new ones. -/
def edd (pi ta re : Bool) (old new : Nat → Bool) (j : Nat) : Bool := (pi && old j) || ((ta && up new j) || (re && up old j))
/-- Which beginnings of the pattern the empty piece comes of, by at most so many edits. -/
def rb0 (pi ta re : Bool) : Nat → Nat → Bool
  | 0, j => decide (j = 0)
  | e + 1, j => decide (j = 0) || edd pi ta re (fun _ => false) (rb0 pi ta re e) j
/-- And a piece with one more byte, out of those of the piece without. -/
def rbS (P : List UInt8) (pi ta re : Bool) (c : UInt8) (f : Nat → Nat → Bool) : Nat → Nat → Bool
  | 0, j => up (fun i => f 0 i && hv P c i) j
  | e + 1, j => up (fun i => f (e + 1) i && hv P c i) j || edd pi ta re (f e) (rbS P pi ta re c f e) j
/-- Which beginnings a piece comes of. -/
def rb (P : List UInt8) (pi ta re : Bool) (v : List UInt8) : Nat → Nat → Bool := v.foldl (fun f c => rbS P pi ta re c f) (rb0 pi ta re)
theorem rb_nil (P : List UInt8) (pi ta re : Bool) : rb P pi ta re [] = rb0 pi ta re := rfl
theorem rb_snoc (P : List UInt8) (pi ta re : Bool) (v : List UInt8) (c : UInt8) : rb P pi ta re (v ++ [c]) = rbS P pi ta re c (rb P pi ta re v) := by
  rw [rb, List.foldl_append]; rfl
theorem edd_mono {pi ta re : Bool} {old new old' new' : Nat → Bool} {j : Nat} (h1 : ∀ i, old i = true → old' i = true) (h2 : ∀ i, new i = true → new' i = true) (h : edd pi ta re old new j = true) : edd pi ta re old' new' j = true := by
  simp only [edd, up, Bool.or_eq_true, Bool.and_eq_true] at h ⊢
  rcases h with ⟨a, b⟩ | ⟨a, b, d⟩ | ⟨a, b, d⟩
  · exact .inl ⟨a, h1 _ b⟩
  · exact .inr (.inl ⟨a, b, h2 _ d⟩)
  · exact .inr (.inr ⟨a, b, h1 _ d⟩)
theorem rb0_mono (pi ta re : Bool) (e j : Nat) (h : rb0 pi ta re e j = true) : rb0 pi ta re (e + 1) j = true := by
  induction e generalizing j with
  | zero => simp only [rb0, Bool.or_eq_true]; exact .inl h
  | succ e ih =>
    rw [rb0, Bool.or_eq_true] at h ⊢
    rcases h with h | h
    · exact .inl h
    · exact .inr (edd_mono (fun _ h => h) ih h)
theorem rbS_mono (P : List UInt8) (pi ta re : Bool) (c : UInt8) (f : Nat → Nat → Bool) (hf : ∀ e j, f e j = true → f (e + 1) j = true) (e j : Nat) (h : rbS P pi ta re c f e j = true) : rbS P pi ta re c f (e + 1) j = true := by
  have hup : ∀ e j, up (fun i => f e i && hv P c i) j = true → up (fun i => f (e + 1) i && hv P c i) j = true := by
    intro e j h
    simp only [up, Bool.and_eq_true] at h ⊢
    exact ⟨h.1, hf _ _ h.2.1, h.2.2⟩
  induction e generalizing j with
  | zero => rw [rbS, Bool.or_eq_true]; exact .inl (hup 0 j h)
  | succ e ih =>
    rw [rbS, Bool.or_eq_true] at h ⊢
    rcases h with h | h
    · exact .inl (hup _ j h)
    · exact .inr (edd_mono (hf e) ih h)
theorem rb_mono (P : List UInt8) (pi ta re : Bool) (v : List UInt8) (e j : Nat) (h : rb P pi ta re v e j = true) : rb P pi ta re v (e + 1) j = true := by
  suffices H : ∀ (v : List UInt8) (f : Nat → Nat → Bool), (∀ e j, f e j = true → f (e + 1) j = true) → ∀ e j, v.foldl (fun f c => rbS P pi ta re c f) f e j = true → v.foldl (fun f c => rbS P pi ta re c f) f (e + 1) j = true from H v _ (rb0_mono pi ta re) e j h
  intro v
  induction v with
  | nil => intro f hf; exact hf
  | cons c v ih => intro f hf; exact ih _ (rbS_mono P pi ta re c f hf)
/-- What a longer piece comes of begins with what the shorter one does. -/
theorem rb_back (P : List UInt8) (pi ta re : Bool) (v : List UInt8) (c : UInt8) (e j : Nat) (h : rb P pi ta re (v ++ [c]) e j = true) : ∃ i, i ≤ j ∧ rb P pi ta re v e i = true := by
  induction e generalizing j with
  | zero =>
    rw [rb_snoc, rbS, up] at h
    simp only [Bool.and_eq_true] at h
    exact ⟨j - 1, by omega, h.2.1⟩
  | succ e ih =>
    have hm := rb_mono P pi ta re v e
    rw [rb_snoc, rbS] at h
    rw [rb_snoc] at ih
    simp only [edd, up, Bool.or_eq_true, Bool.and_eq_true] at h
    rcases h with h | h | h | h
    · exact ⟨j - 1, by omega, h.2.1⟩
    · exact ⟨j, Nat.le_refl _, hm _ h.2⟩
    · obtain ⟨i, hi, hh⟩ := ih _ h.2.2
      exact ⟨i, by omega, hm _ hh⟩
    · exact ⟨j - 1, by omega, hm _ h.2.2⟩
theorem rb_backs (P : List UInt8) (pi ta re : Bool) (v u : List UInt8) (e j : Nat) (h : rb P pi ta re (v ++ u) e j = true) : ∃ i, i ≤ j ∧ rb P pi ta re v e i = true := by
  suffices H : ∀ (u : List UInt8), ∀ j, rb P pi ta re (v ++ u.reverse) e j = true → ∃ i, i ≤ j ∧ rb P pi ta re v e i = true from H u.reverse j (by rwa [List.reverse_reverse])
  intro u
  induction u with
  | nil => intro j h; exact ⟨j, Nat.le_refl _, by simpa using h⟩
  | cons c u ih =>
    intro j h
    rw [List.reverse_cons, ← List.append_assoc] at h
    obtain ⟨i, hi, hh⟩ := rb_back P pi ta re _ c e j h
    obtain ⟨i', hi', hh'⟩ := ih i hh
    exact ⟨i', by omega, hh'⟩

/-- All three kinds: edits. -/
theorem rb_lev0 (P : List UInt8) (e j : Nat) (hj : j ≤ P.length) : rb0 true true true e j = true ↔ lev (P.take j) [] ≤ e := by
  rw [lev_nil_right, List.length_take, Nat.min_eq_left hj]
  induction e generalizing j with
  | zero => simp [rb0]
  | succ e ih =>
    rw [rb0]
    simp only [edd, up, Bool.or_eq_true, Bool.and_eq_true, decide_eq_true_eq, Bool.false_eq_true, and_false, false_or, or_false, true_and]
    constructor
    · rintro (h | ⟨h1, h2⟩)
      · omega
      · have := (ih (j - 1) (by omega)).1 h2
        omega
    · intro h
      by_cases h0 : j = 0
      · exact .inl h0
      · exact .inr ⟨by omega, (ih (j - 1) (by omega)).2 (by omega)⟩
theorem getD_of_some {P : List UInt8} {j : Nat} {c : UInt8} (h : j < P.length) : P[j]? = some c ↔ P.getD j 0 = c := by
  rw [List.getD_eq_getElem?_getD, List.getElem?_eq_getElem h]
  simp
theorem rb_lev (P v : List UInt8) (e j : Nat) (hj : j ≤ P.length) : rb P true true true v e j = true ↔ lev (P.take j) v ≤ e := by
  suffices H : ∀ (u : List UInt8) (e j : Nat), j ≤ P.length → (rb P true true true u.reverse e j = true ↔ lev (P.take j) u.reverse ≤ e) by
    have := H v.reverse e j hj
    rwa [List.reverse_reverse] at this
  intro u
  induction u with
  | nil => intro e j hj; exact rb_lev0 P e j hj
  | cons c u ihu =>
    intro e
    rw [List.reverse_cons, rb_snoc]
    generalize u.reverse = v at ihu ⊢
    induction e with
    | zero =>
      intro j hj
      rw [rbS, up]
      simp only [Bool.and_eq_true, decide_eq_true_eq, hv]
      by_cases h0 : j = 0
      · subst h0
        rw [lev_take_zero]
        simp
      · obtain ⟨i, rfl⟩ : ∃ i, j = i + 1 := ⟨j - 1, by omega⟩
        rw [lev_take P v c i (by omega), Nat.add_sub_cancel, ihu 0 i (by omega), getD_of_some (by omega)]
        constructor
        · rintro ⟨_, h1, h2⟩
          rw [if_pos h2]; omega
        · intro h
          by_cases e : P.getD i 0 = c
          · rw [if_pos e] at h; exact ⟨by omega, by omega, e⟩
          · rw [if_neg e] at h; omega
    | succ e ihe =>
      intro j hj
      rw [rbS]
      simp only [edd, up, Bool.or_eq_true, Bool.and_eq_true, decide_eq_true_eq, hv, true_and]
      by_cases h0 : j = 0
      · subst h0
        have h1 := ihu e 0 (by omega)
        rw [lev_take_zero, h1]
        simp
      · obtain ⟨i, rfl⟩ : ∃ i, j = i + 1 := ⟨j - 1, by omega⟩
        rw [lev_take P v c i (by omega), Nat.add_sub_cancel, ihu (e + 1) i (by omega), getD_of_some (by omega), ihu e (i + 1) hj, ihe i (by omega), ihu e i (by omega)]
        constructor
        · rintro (⟨_, h1, h2⟩ | h | ⟨_, h⟩ | ⟨_, h⟩)
          · rw [if_pos h2]; omega
          · omega
          · omega
          · split <;> omega
        · intro h
          by_cases e1 : P.getD i 0 = c
          · rw [if_pos e1] at h
            by_cases h2 : lev (P.take i) v ≤ e + 1
            · exact .inl ⟨by omega, h2, e1⟩
            · by_cases h3 : lev (P.take (i + 1)) v ≤ e
              · exact .inr (.inl h3)
              · exact .inr (.inr (.inl ⟨by omega, by omega⟩))
          · rw [if_neg e1] at h
            by_cases h2 : lev (P.take i) v ≤ e
            · exact .inr (.inr (.inr ⟨by omega, h2⟩))
            · by_cases h3 : lev (P.take (i + 1)) v ≤ e
              · exact .inr (.inl h3)
              · exact .inr (.inr (.inl ⟨by omega, by omega⟩))
/-- The last kind alone: wrong bytes. -/
def hd : List UInt8 → List UInt8 → Nat
  | a :: x, b :: y => hd x y + (if a = b then 0 else 1)
  | _, _ => 0
theorem hd_snoc : ∀ (x y : List UInt8) (a b : UInt8), x.length = y.length → hd (x ++ [a]) (y ++ [b]) = hd x y + (if a = b then 0 else 1)
  | [], [], a, b, _ => rfl
  | [], _ :: _, _, _, h => by simp at h
  | _ :: _, [], _, _, h => by simp at h
  | c :: x, d :: y, a, b, h => by
    simp only [List.cons_append, hd]
    rw [hd_snoc x y a b (by simpa using h)]
    omega
theorem rb_hd0 (e j : Nat) : rb0 false false true e j = true ↔ j = 0 := by
  induction e with
  | zero => simp [rb0]
  | succ e _ => simp [rb0, edd, up]
theorem rb_hd (P v : List UInt8) (e j : Nat) (hj : j ≤ P.length) : rb P false false true v e j = true ↔ v.length = j ∧ hd (P.take j) v ≤ e := by
  suffices H : ∀ (u : List UInt8) (e j : Nat), j ≤ P.length → (rb P false false true u.reverse e j = true ↔ u.reverse.length = j ∧ hd (P.take j) u.reverse ≤ e) by
    have := H v.reverse e j hj
    rwa [List.reverse_reverse] at this
  intro u
  induction u with
  | nil =>
    intro e j hj
    rw [List.reverse_nil, rb_nil, rb_hd0]
    constructor
    · rintro rfl
      exact ⟨rfl, by simp [hd]⟩
    · intro h; exact h.1.symm
  | cons c u ihu =>
    intro e j hj
    rw [List.reverse_cons, rb_snoc]
    generalize u.reverse = v at ihu ⊢
    rw [List.length_append, List.length_singleton]
    by_cases h0 : j = 0
    · subst h0
      cases e <;> simp [rbS, up, edd]
    · obtain ⟨i, rfl⟩ : ∃ i, j = i + 1 := ⟨j - 1, by omega⟩
      have e1 : P.take (i + 1) = P.take i ++ [P.getD i 0] := by
        rw [List.take_succ_eq_append_getElem (by omega), List.getD_eq_getElem?_getD, List.getElem?_eq_getElem (by omega)]; rfl
      have hs : v.length = i → hd (P.take (i + 1)) (v ++ [c]) = hd (P.take i) v + (if P.getD i 0 = c then 0 else 1) := by
        intro h
        rw [e1, hd_snoc _ _ _ _ (by rw [List.length_take]; omega)]
      cases e with
      | zero =>
        rw [rbS, up]
        simp only [Bool.and_eq_true, decide_eq_true_eq, hv]
        rw [Nat.add_sub_cancel, ihu 0 i (by omega), getD_of_some (by omega)]
        constructor
        · rintro ⟨_, ⟨h1, h2⟩, h3⟩
          rw [hs h1, if_pos h3]; omega
        · rintro ⟨h1, h2⟩
          rw [hs (by omega)] at h2
          by_cases h3 : P.getD i 0 = c
          · rw [if_pos h3] at h2; exact ⟨by omega, ⟨by omega, by omega⟩, h3⟩
          · rw [if_neg h3] at h2; omega
      | succ e =>
        rw [rbS]
        simp only [edd, up, Bool.or_eq_true, Bool.and_eq_true, decide_eq_true_eq, hv, true_and, Bool.false_eq_true, false_and, false_or]
        rw [Nat.add_sub_cancel, ihu (e + 1) i (by omega), getD_of_some (by omega), ihu e i (by omega)]
        constructor
        · rintro (⟨_, ⟨h1, h2⟩, h3⟩ | ⟨_, h1, h2⟩)
          · rw [hs h1, if_pos h3]; omega
          · rw [hs h1]; split <;> omega
        · rintro ⟨h1, h2⟩
          rw [hs (by omega)] at h2
          by_cases h3 : P.getD i 0 = c
          · rw [if_pos h3] at h2; exact .inl ⟨by omega, ⟨by omega, by omega⟩, h3⟩
          · rw [if_neg h3] at h2; exact .inr ⟨by omega, by omega, by omega⟩
end Go.Proofs.YtkebgnpifmcmaabGreat

namespace Go.Proofs.YtkebgnpifmcmaabGreat
open Go.RowKit

/-- What is written in the search: the index, the pattern itself, what each byte follows, k, the kinds, the places. -/
def SF (x m k : Nat) (HV : Nat → Nat) (kv pv : Value) : Nat → Value := fun i =>
  if i = 0 then .pointer (some ⟨x, 0, none⟩) else if i = 1 then .int .u64 ((2 ^ m : Nat) : Int) else if i < 258 then .int .u64 (HV (i - 2) : Int) else if i = 258 then .int .i64 (k : Int) else if i = 259 then kv else pv
theorem SF_have (x m k : Nat) (HV : Nat → Nat) (kv pv : Value) (c : Nat) (h : c < 256) : SF x m k HV kv pv (2 + c) = .int .u64 (HV c : Int) := by
  rw [SF, if_neg (by omega), if_neg (by omega), if_pos (by omega), Nat.add_sub_cancel_left]
theorem SF_setHave (x m k : Nat) (HV : Nat → Nat) (kv pv : Value) (c y : Nat) (h : c < 256) : updV (SF x m k HV kv pv) (2 + c) (.int .u64 (y : Int)) = SF x m k (upd HV c y) kv pv := by
  funext i
  simp only [updV]
  by_cases e : i = 2 + c
  · subst e; rw [if_pos rfl, SF_have _ _ _ _ _ _ _ h, upd_at]
  · rw [if_neg e, SF, SF]
    by_cases h0 : i = 0
    · rw [if_pos h0, if_pos h0]
    · by_cases h1 : i = 1
      · rw [if_neg h0, if_pos h1, if_neg h0, if_pos h1]
      · rw [if_neg h0, if_neg h1, if_neg h0, if_neg h1, upd_ne _ _ _ (show i - 2 ≠ c by omega)]
theorem SF_setPlaces (x m k : Nat) (HV : Nat → Nat) (kv pv v : Value) (i : Nat) (hi : i < 261) : updV (SF x m k HV kv pv) 260 v i = SF x m k HV kv v i := by
  simp only [updV]
  by_cases e : i = 260
  · subst e; rfl
  · rw [if_neg e, SF, SF]
    by_cases h0 : i = 0
    · rw [if_pos h0, if_pos h0]
    · by_cases h1 : i = 1
      · rw [if_neg h0, if_pos h1, if_neg h0, if_pos h1]
      · rw [if_neg h0, if_neg h1, if_neg h0, if_neg h1]
        by_cases h2 : i < 258
        · rw [if_pos h2, if_pos h2]
        · by_cases h3 : i = 258
          · rw [if_neg h2, if_pos h3, if_neg h2, if_pos h3]
          · rw [if_neg h2, if_neg h3, if_neg h2, if_neg h3, if_pos (by omega), if_pos (by omega)]
theorem AN_congr {n : Nat} {F G : Nat → Value} (h : ∀ i, i < n → F i = G i) : AN n F = AN n G := by
  apply Array.ext
  · rw [AN_size, AN_size]
  · intro i h1 h2
    rw [AN_size] at h1
    have a := AN_get n F i h1
    have b := AN_get n G i h1
    rw [Array.getElem?_eq_getElem (by rw [AN_size]; exact h1)] at a b
    rw [Option.some.inj a, Option.some.inj b, h i h1]

/-- The search, in memory. -/
def SB (w : World) (gS x m k : Nat) (HV : Nat → Nat) (kv pv : Value) : Prop := Blk w gS 96 (AN 261 (SF x m k HV kv pv))
theorem SB.x {w : World} {gS x m k : Nat} {HV : Nat → Nat} {kv pv : Value} (h : SB w gS x m k HV kv pv) : w.cell? ⟨gS, 0, none⟩ = some (.pointer (some ⟨x, 0, none⟩)) := Blk.cellAN h (by decide)
theorem SB.whole {w : World} {gS x m k : Nat} {HV : Nat → Nat} {kv pv : Value} (h : SB w gS x m k HV kv pv) : w.cell? ⟨gS, 1, none⟩ = some (.int .u64 ((2 ^ m : Nat) : Int)) := Blk.cellAN h (by decide)
theorem SB.have_ {w : World} {gS x m k : Nat} {HV : Nat → Nat} {kv pv : Value} (h : SB w gS x m k HV kv pv) (c : Nat) (hc : c < 256) : w.cell? ⟨gS, 2 + c, none⟩ = some (.int .u64 (HV c : Int)) := by
  have := Blk.cellAN h (j := 2 + c) (by omega)
  rwa [SF_have _ _ _ _ _ _ _ hc] at this
theorem SB.k {w : World} {gS x m k : Nat} {HV : Nat → Nat} {kv pv : Value} (h : SB w gS x m k HV kv pv) : w.cell? ⟨gS, 258, none⟩ = some (.int .i64 (k : Int)) := Blk.cellAN h (by decide)
theorem SB.kinds {w : World} {gS x m k : Nat} {HV : Nat → Nat} {kv pv : Value} (h : SB w gS x m k HV kv pv) : w.cell? ⟨gS, 259, none⟩ = some kv := Blk.cellAN h (by decide)
theorem SB.places {w : World} {gS x m k : Nat} {HV : Nat → Nat} {kv pv : Value} (h : SB w gS x m k HV kv pv) : w.cell? ⟨gS, 260, none⟩ = some pv := Blk.cellAN h (by decide)
theorem SB.setPlaces {w : World} {gS x m k : Nat} {HV : Nat → Nat} {kv pv : Value} (h : SB w gS x m k HV kv pv) (v : Value) : SB (w.setCell ⟨gS, 260, none⟩ v) gS x m k HV kv v := by
  have h1 := Blk.setAN h 260 v
  rwa [AN_congr (fun i hi => SF_setPlaces x m k HV kv pv v i hi)] at h1
theorem SB.setHave {w : World} {gS x m k : Nat} {HV : Nat → Nat} {kv pv : Value} (h : SB w gS x m k HV kv pv) (c y : Nat) (hc : c < 256) : SB (w.setCell ⟨gS, 2 + c, none⟩ (.int .u64 (y : Int))) gS x m k (upd HV c y) kv pv := by
  have h1 := Blk.setAN h (2 + c) (.int .u64 (y : Int))
  rwa [SF_setHave _ _ _ _ _ _ _ _ hc] at h1
theorem SB.below {w w' : World} {gS x m k : Nat} {HV : Nat → Nat} {kv pv : Value} (h : SB w gS x m k HV kv pv) (hb : Below w.heap.size w w') : SB w' gS x m k HV kv pv := Blk.below h hb h.lt

/-- One edit of a kind. -/
def opK (n : Nat) (F G : Nat → Bool) : Nat → Bool := if n = 0 then F else if n = 1 then up G else up F
/-- Of the first kinds any. -/
def edK (kd : Nat → Nat) (F G : Nat → Bool) : Nat → Nat → Bool
  | 0 => fun _ => false
  | i + 1 => fun j => edK kd F G i j || opK (kd i) F G j

theorem or_wd (F G : Nat → Bool) : bits BinOp.or IntKind.u64 (wd F : Int) (wd G : Int) = ((wd fun i => F i || G i : Nat) : Int) := by
  rw [u64_or_nat _ _ (by simpa using wd_lt F) (by simpa using wd_lt G), wd_or]
theorem and_wd (F G : Nat → Bool) : bits BinOp.and IntKind.u64 (wd F : Int) (wd G : Int) = ((wd fun i => F i && G i : Nat) : Int) := by
  rw [u64_and_nat _ _ (by simpa using wd_lt F) (by simpa using wd_lt G), wd_and]

theorem wrap_up (F : Nat → Bool) : IntKind.u64.wrap ((wd F : Int) * 2) = ((wd (up F) : Nat) : Int) := by
  rw [← wd_up]
  simp [IntKind.wrap, IntKind.bits, IntKind.signed]

set_option maxRecDepth 10000 in
set_option maxHeartbeats 1000000 in
theorem edited_any {w : World} {gS x m k gk nk ck : Nat} {HV kd : Nat → Nat} {pv : Value} (h : SB w gS x m k HV (.slice (some ⟨gk, 0, none⟩) nk ck) pv) (hk : Row w gk 3 nk (IN kd)) (hnk : nk ≤ 10) (hkd : ∀ i, i < nk → kd i ≤ 2) (F G : Nat → Bool) :
    Calls Tryz.prog 90 #[.pointer (some ⟨gS, 0, none⟩), .int .u64 (wd F : Int), .int .u64 (wd G : Int)] w fun e w' => e = .returned (.int .u64 (wd (edK kd F G nk) : Int)) ∧ w' = w := by
  have hc := h.kinds
  have hcells : Hid (∀ i, i < nk → w.cell? ⟨gk, i, none⟩ = some (.int .i64 (kd i : Int))) := fun i hi => hk.cell hi
  clear h hk
  go_enter Tryz.func90, Tryz.ntmps90
  go_wp2_with fail
  clear hc
  go_loopw [15, 7, 9, 20, 25, 31] (fun iv lv _ _ _ _ wr => ∃ i : Nat, i ≤ nk ∧ iv = .int .i64 (i : Int) ∧ lv = .int .u64 (wd (edK kd F G i) : Int) ∧ wr = w) (fun iv _ _ _ _ _ _ => nk - (intOf iv).toNat)
  case atStart => exact ⟨0, Nat.zero_le _, rfl, (by show _ = Value.int .u64 ((wd fun _ => false : Nat) : Int); rw [wd_none]; rfl), rfl⟩
  case round =>
    obtain ⟨i, hi, rfl, rfl, rfl⟩ := hrel
    by_cases hlt : i < nk
    · have hci := hcells.out i hlt
      have hki := hkd i hlt
      have HE : Hid (edK kd F G (i + 1) = fun j => edK kd F G i j || opK (kd i) F G j) := rfl
      have HS : Hid (∀ o, Value.int .u64 ((wd (fun j => edK kd F G i j || opK o F G j) : Nat) : Int) = Value.int .u64 (wd (edK kd F G (i + 1)) : Int) ∨ o ≠ kd i) := fun o => by
        by_cases e : o = kd i
        · subst e; exact .inl (by rw [HE.out])
        · exact .inr e
      clear HE
      generalize kd i = ki at *
      obtain rfl | rfl | rfl : ki = 0 ∨ ki = 1 ∨ ki = 2 := by omega
      · go_wp2
        go_roundw
        case rel => exact ⟨i + 1, by omega, by go_num, by rw [or_wd]; exact (HS.out 0).resolve_right (by simp), trivial⟩
        case measure => simp [intOf]; omega
      · go_wp2
        go_roundw
        case rel => exact ⟨i + 1, by omega, by go_num, by rw [wrap_up, or_wd]; exact (HS.out 1).resolve_right (by simp), trivial⟩
        case measure => simp [intOf]; omega
      · go_wp2
        go_roundw
        case rel => exact ⟨i + 1, by omega, by go_num, by rw [wrap_up, or_wd]; exact (HS.out 2).resolve_right (by simp), trivial⟩
        case measure => simp [intOf]; omega
    · have hin : i = nk := by omega
      subst hin
      go_wp2
      go_ret
      exact ⟨rfl, rfl⟩
end Go.Proofs.YtkebgnpifmcmaabGreat

namespace Go.Proofs.YtkebgnpifmcmaabGreat
open Go.RowKit

theorem AN5 (F : Nat → Value) : AN 5 F = #[F 0, F 1, F 2, F 3, F 4] := by
  apply Array.ext'
  simp [AN, List.range, List.range.loop]
/-- What a piece comes of, by less than e edits. -/
def RV (R : Nat → Nat → Bool) (e : Nat) : Nat → Value := fun i => .int .u64 ((if i < e then wd (R i) else 0 : Nat) : Int)
theorem RV_next (R : Nat → Nat → Bool) (e : Nat) : updV (RV R e) e (.int .u64 (wd (R e) : Int)) = RV R (e + 1) := by
  funext i
  simp only [updV, RV]
  by_cases h : i = e
  · subst h; rw [if_pos rfl, if_pos (Nat.lt_succ_self _)]
  · rw [if_neg h]
    by_cases h2 : i < e
    · rw [if_pos h2, if_pos (by omega)]
    · rw [if_neg h2, if_neg (by omega)]
theorem RV_at (R : Nat → Nat → Bool) (e i : Nat) (h : i < e) : RV R e i = .int .u64 (wd (R i) : Int) := by rw [RV, if_pos h]
theorem wd_nothing : wd (fun i => decide (i = 0)) = 1 := wd_one 0 (by decide)
theorem infoRe : (Tryz.prog.info? 100).map (·.size) = some 5 := by kernel_rfl

set_option maxRecDepth 10000 in
set_option maxHeartbeats 1000000 in
theorem start_any {w : World} {gS x m k gk nk ck : Nat} {HV kd : Nat → Nat} {pv : Value} (h : SB w gS x m k HV (.slice (some ⟨gk, 0, none⟩) nk ck) pv) (hk : Row w gk 3 nk (IN kd)) (hnk : nk ≤ 10) (hkd : ∀ i, i < nk → kd i ≤ 2) (hk4 : k ≤ 4) (pi ta re : Bool) (hed : ∀ F G, edK kd F G nk = edd pi ta re F G) :
    Calls Tryz.prog 61 #[.pointer (some ⟨gS, 0, none⟩)] w fun e w' => e = .returned (.agg (AN 5 (RV (rb0 pi ta re) (k + 1)))) ∧ Below w.heap.size w w' := by
  have HED : Hid (∀ w', Below w.heap.size w w' → ∀ G, Calls Tryz.prog 90 #[.pointer (some ⟨gS, 0, none⟩), .int .u64 0, .int .u64 (wd G : Int)] w' fun e w2 => e = .returned (.int .u64 (wd (edd pi ta re (fun _ => false) G) : Int)) ∧ w2 = w') := fun w' hb G => by
    have := edited_any (h.below hb) (hk.below hb hk.lt) hnk hkd (fun _ => false) G
    rw [wd_none, hed] at this
    exact this
  have HK : Hid (∀ w', Below w.heap.size w w' → w'.cell? ⟨gS, 258, none⟩ = some (.int .i64 (k : Int))) := fun w' hb => (h.below hb).k
  clear h hk hkd hed
  have q0 := Blk.new w 100 #[.int .u64 0, .int .u64 0, .int .u64 0, .int .u64 0, .int .u64 0]
  have q1 := Blk.new (w.alloc (.cells #[.int .u64 0, .int .u64 0, .int .u64 0, .int .u64 0, .int .u64 0] 100)) 100 #[.int .u64 1, .int .u64 0, .int .u64 0, .int .u64 0, .int .u64 0]
  have q2 := q0.alloc (.cells #[.int .u64 1, .int .u64 0, .int .u64 0, .int .u64 0, .int .u64 0] 100)
  have hb0 : Below w.heap.size w ((w.alloc (.cells #[.int .u64 0, .int .u64 0, .int .u64 0, .int .u64 0, .int .u64 0] 100)).alloc (.cells #[.int .u64 1, .int .u64 0, .int .u64 0, .int .u64 0, .int .u64 0] 100)) := ((Below.refl _ _).alloc (Nat.le_refl _) _).alloc (by simp) _
  rw [show (w.alloc (.cells #[.int .u64 0, .int .u64 0, .int .u64 0, .int .u64 0, .int .u64 0] 100)).heap.size = w.heap.size + 1 from by simp] at q1
  have HR1 : Hid (#[.int .u64 1, .int .u64 0, .int .u64 0, .int .u64 0, .int .u64 0] = AN 5 (RV (rb0 pi ta re) 1)) := by
    show _ = _
    rw [AN5]
    have : wd (rb0 pi ta re 0) = 1 := wd_nothing
    simp [RV, this]
  have HRN : Hid (∀ e, wd (rb0 pi ta re (e + 1)) = wd (fun i => decide (i = 0) || edd pi ta re (fun _ => false) (rb0 pi ta re e) i)) := fun e => rfl
  generalize rb0 pi ta re = R at *
  clear q0
  go_enter Tryz.func61, Tryz.ntmps61
  go_wp2_with fail
  rw [HR1.out] at q1 q2 hb0 ⊢
  clear HR1
  generalize (w.alloc (.cells #[.int .u64 0, .int .u64 0, .int .u64 0, .int .u64 0, .int .u64 0] 100)).alloc (.cells (AN 5 (RV R 1)) 100) = W0 at *
  go_loopw [4] (fun iv wr => ∃ e : Nat, 1 ≤ e ∧ e ≤ k + 1 ∧ iv = .int .i64 (e : Int) ∧ Blk wr w.heap.size 100 #[.int .u64 0, .int .u64 0, .int .u64 0, .int .u64 0, .int .u64 0] ∧ Blk wr (w.heap.size + 1) 100 (AN 5 (RV R e)) ∧ Below w.heap.size w wr) (fun iv _ => k + 1 - (intOf iv).toNat)
  case atStart => exact ⟨1, Nat.le_refl _, by omega, rfl, q2, q1, hb0⟩
  case round =>
    clear q1 q2 hb0
    obtain ⟨e, he1, he2, rfl, p0, p1, hb⟩ := hrel
    have hkc := HK.out wr hb
    by_cases hlt : e < k + 1
    · obtain ⟨d, rfl⟩ : ∃ d, e = d + 1 := ⟨e - 1, by omega⟩
      have hc1 : wr.cell? ⟨w.heap.size + 1, d, none⟩ = some (.int .u64 (wd (R d) : Int)) := by
        have := p1.cellAN (j := d) (by omega)
        rwa [RV_at _ _ _ (Nat.lt_succ_self d)] at this
      have HC : Hid _ := HED.out wr hb (R d)
      have hd1 : (d + 1 : Int) ≤ (k : Int) := by omega
      have hfz := p1.free (d + 1)
      have hc2 := p1.cellAN (j := d + 1) (by omega)
      have hsz := p1.lt
      have HN : Hid (∀ w2 : World, Blk w2 (w.heap.size + 1) 100 (AN 5 (RV R (d + 1))) → Blk (w2.setCell ⟨w.heap.size + 1, d + 1, none⟩ (.int .u64 (wd (R (d + 1)) : Int))) (w.heap.size + 1) 100 (AN 5 (RV R (d + 1 + 1)))) := fun w2 hw => by
        have := Blk.setAN hw (d + 1) (.int .u64 (wd (R (d + 1)) : Int))
        rwa [RV_next] at this
      clear HED HK
      go_wp2_with fail
      refine Calls.mono HC.out ?_
      clear HC
      rintro en w2 ⟨rfl, rfl⟩
      go_wp2
      go_roundw
      case rel =>
        refine ⟨d + 1 + 1, by omega, by omega, by go_num, p0.setOther (by show w.heap.size ≠ w.heap.size + 1; omega) _, ?_, hb.setCell (by show w.heap.size ≤ w.heap.size + 1; omega) _⟩
        have h1 := HN.out w2 p1
        rw [HRN.out, ← or_wd, wd_nothing] at h1
        exact h1
      case measure => simp [intOf]; omega
    · obtain rfl : e = k + 1 := by omega
      have c0 : wr.cell? ⟨w.heap.size + 1, 0, none⟩ = some (RV R (k + 1) 0) := p1.cellAN (by decide)
      have c1 : wr.cell? ⟨w.heap.size + 1, 1, none⟩ = some (RV R (k + 1) 1) := p1.cellAN (by decide)
      have c2 : wr.cell? ⟨w.heap.size + 1, 2, none⟩ = some (RV R (k + 1) 2) := p1.cellAN (by decide)
      have c3 : wr.cell? ⟨w.heap.size + 1, 3, none⟩ = some (RV R (k + 1) 3) := p1.cellAN (by decide)
      have c4 : wr.cell? ⟨w.heap.size + 1, 4, none⟩ = some (RV R (k + 1) 4) := p1.cellAN (by decide)
      have f0 := p0.free 0
      have f1 := p0.free 1
      have f2 := p0.free 2
      have f3 := p0.free 3
      have f4 := p0.free 4
      have e0 := p0.cell 0
      have e1 := p0.cell 1
      have e2 := p0.cell 2
      have e3 := p0.cell 3
      have e4 := p0.cell 4
      have HV : Hid (AN 5 (RV R (k + 1)) = #[RV R (k + 1) 0, RV R (k + 1) 1, RV R (k + 1) 2, RV R (k + 1) 3, RV R (k + 1) 4]) := AN5 _
      obtain ⟨X0, hX0⟩ : ∃ X : Nat, RV R (k + 1) 0 = .int .u64 (X : Int) := ⟨_, rfl⟩
      obtain ⟨X1, hX1⟩ : ∃ X : Nat, RV R (k + 1) 1 = .int .u64 (X : Int) := ⟨_, rfl⟩
      obtain ⟨X2, hX2⟩ : ∃ X : Nat, RV R (k + 1) 2 = .int .u64 (X : Int) := ⟨_, rfl⟩
      obtain ⟨X3, hX3⟩ : ∃ X : Nat, RV R (k + 1) 3 = .int .u64 (X : Int) := ⟨_, rfl⟩
      obtain ⟨X4, hX4⟩ : ∃ X : Nat, RV R (k + 1) 4 = .int .u64 (X : Int) := ⟨_, rfl⟩
      rw [hX0] at c0 HV
      rw [hX1] at c1 HV
      rw [hX2] at c2 HV
      rw [hX3] at c3 HV
      rw [hX4] at c4 HV
      clear HED HK HRN hX0 hX1 hX2 hX3 hX4
      have HB : Hid (Below w.heap.size w wr) := hb
      clear hb p1
      go_wp2
      exact bodyPost_ret (v := .agg #[.int .u64 (X0 : Int), .int .u64 (X1 : Int), .int .u64 (X2 : Int), .int .u64 (X3 : Int), .int .u64 (X4 : Int)]) (results_cell_row (P := Tryz.prog) rfl _ _ w.heap.size 100 _ (0, 0) _ rfl (((((p0.set 0 _).set 1 _).set 2 _).set 3 _).set 4 _) Tryz.underlying100 rfl infoRe) rfl ⟨by rw [HV.out], ((((HB.out.setCell (Nat.le_refl _) _).setCell (Nat.le_refl _) _).setCell (Nat.le_refl _) _).setCell (Nat.le_refl _) _).setCell (Nat.le_refl _) _⟩
end Go.Proofs.YtkebgnpifmcmaabGreat

namespace Go.Proofs.YtkebgnpifmcmaabGreat
open Go.RowKit

theorem enterEdited (args : Array Value) (w : World) : (callFunc 90 args).run Tryz.prog w = .ok (.enter 90 args) w := Go.MuLone.run_callFunc_enter (P := Tryz.prog) Tryz.func90 (by kernel_rfl) rfl args w

/-- A region that draws its order, all of whose operations but the last leave the world alone. -/
theorem region_tail {id : Nat} {Q : Exit → Act → World → Prop} {a : Act} {w : World} {l : List Oper} (n : Nat) (hB : Region.lexTailB .any l.toArray n = true)
    (h : wpStill Tryz.prog l.toArray w.drew (fun a' => wpList Tryz.prog l.toArray Q (l.drop n) a' w.drew) (l.take n) a) : (Code.region id l.toArray true).wp Tryz.prog Q a w :=
  wp_region_still_tail n (by kernel_rfl) hB h

set_option maxRecDepth 10000 in
set_option maxHeartbeats 2000000 in
theorem step_any {w : World} {gS x m k gk nk ck : Nat} {HV kd : Nat → Nat} {pv : Value} (h : SB w gS x m k HV (.slice (some ⟨gk, 0, none⟩) nk ck) pv) (hk : Row w gk 3 nk (IN kd)) (hnk : nk ≤ 10) (hkd : ∀ i, i < nk → kd i ≤ 2) (hk4 : k ≤ 4) (pi ta re : Bool) (hed : ∀ F G, edK kd F G nk = edd pi ta re F G) (P : List UInt8) (c : UInt8) (hHV : HV c.toNat = wd (hv P c)) (f : Nat → Nat → Bool) :
    Calls Tryz.prog 88 #[.pointer (some ⟨gS, 0, none⟩), .agg (AN 5 (RV f (k + 1))), .int .u8 (c.toNat : Int)] w fun e w' => e = .returned (.agg (AN 5 (RV (rbS P pi ta re c f) (k + 1)))) ∧ Below w.heap.size w w' := by
  have HED : Hid (∀ w', Below w.heap.size w w' → ∀ F G, Calls Tryz.prog 90 #[.pointer (some ⟨gS, 0, none⟩), .int .u64 (wd F : Int), .int .u64 (wd G : Int)] w' fun e w2 => e = .returned (.int .u64 (wd (edd pi ta re F G) : Int)) ∧ w2 = w') := fun w' hb F G => by
    have := edited_any (h.below hb) (hk.below hb hk.lt) hnk hkd F G
    rw [hed] at this
    exact this
  have hcl := c.toNat_lt
  have HK : Hid (∀ w', Below w.heap.size w w' → w'.cell? ⟨gS, 258, none⟩ = some (.int .i64 (k : Int)) ∧ w'.cell? ⟨gS, 2 + c.toNat, none⟩ = some (.int .u64 (wd (hv P c) : Int))) := fun w' hb => by
    have := (h.below hb).have_ c.toNat hcl
    rw [hHV] at this
    exact ⟨(h.below hb).k, this⟩
  clear h hk hkd hed hHV
  have q0 := Blk.new w 100 (AN 5 (RV f (k + 1)))
  have q1 := Blk.new (w.alloc (.cells (AN 5 (RV f (k + 1))) 100)) 100 #[.int .u64 0, .int .u64 0, .int .u64 0, .int .u64 0, .int .u64 0]
  have q2 := q0.alloc (.cells #[.int .u64 0, .int .u64 0, .int .u64 0, .int .u64 0, .int .u64 0] 100)
  have hb0 : Below w.heap.size w ((w.alloc (.cells (AN 5 (RV f (k + 1))) 100)).alloc (.cells #[.int .u64 0, .int .u64 0, .int .u64 0, .int .u64 0, .int .u64 0] 100)) := ((Below.refl _ _).alloc (Nat.le_refl _) _).alloc (by simp) _
  have hsw : (w.alloc (.cells (AN 5 (RV f (k + 1))) 100)).heap.size = w.heap.size + 1 := by simp
  rw [hsw] at q1
  have hsW : ((w.alloc (.cells (AN 5 (RV f (k + 1))) 100)).alloc (.cells #[.int .u64 0, .int .u64 0, .int .u64 0, .int .u64 0, .int .u64 0] 100)).heap.size = w.heap.size + 2 := by simp
  clear q0 hsw
  go_enter Tryz.func88, Tryz.ntmps88
  go_upto_region 1 with fail
  generalize (w.alloc (.cells (AN 5 (RV f (k + 1))) 100)).alloc (.cells #[.int .u64 0, .int .u64 0, .int .u64 0, .int .u64 0, .int .u64 0] 100) = W0 at *
  obtain ⟨hkk, hhv⟩ := HK.out W0 hb0
  have hhv' : W0.drew.cell? ⟨gS, 2 + c.toNat, none⟩ = some (.int .u64 (wd (hv P c) : Int)) := hhv
  have ho0 : W0.cell? ⟨w.heap.size, 0, none⟩ = some (.int .u64 (wd (f 0) : Int)) := by
    have := q2.cellAN (j := 0) (by decide)
    rwa [RV_at _ _ _ (by omega)] at this
  have hcI : (c.toNat : Int) < 256 := by omega
  have hhA : ∀ o, (W0.alloc o).cell? ⟨gS, 2 + c.toNat, none⟩ = some (.int .u64 (wd (hv P c) : Int)) := fun o => (HK.out _ (hb0.alloc (by omega) o)).2
  have hoA : ∀ o, (W0.alloc o).cell? ⟨w.heap.size, 0, none⟩ = some (.int .u64 (wd (f 0) : Int)) := fun o => by
    have := (q2.alloc o).cellAN (j := 0) (by decide)
    rwa [RV_at _ _ _ (by omega)] at this
  have ho0' : W0.drew.cell? ⟨w.heap.size, 0, none⟩ = some (.int .u64 (wd (f 0) : Int)) := ho0
  go_cut [7] from 9 to 19 (fun p wx => p = .pointer (some ⟨w.heap.size + 2, 0, none⟩) ∧ wx = (W0.alloc (.cells #[.int .u64 (wd (rbS P pi ta re c f 0) : Int), .int .u64 0, .int .u64 0, .int .u64 0, .int .u64 0] 100)).drew)
  case first =>
    go_region
    all_goals (go_wp2_with fail)
    all_goals go_meet
    all_goals exact ⟨rfl, by rw [and_wd, wrap_up]; rfl⟩
  case rest =>
    obtain ⟨rfl, rfl⟩ := hcut
    have q3 := Blk.new W0 100 #[.int .u64 (wd (rbS P pi ta re c f 0) : Int), .int .u64 0, .int .u64 0, .int .u64 0, .int .u64 0]
    rw [hsW] at q3
    have HR1 : Hid (#[.int .u64 (wd (rbS P pi ta re c f 0) : Int), .int .u64 0, .int .u64 0, .int .u64 0, .int .u64 0] = AN 5 (RV (rbS P pi ta re c f) 1)) := by
      show _ = _
      rw [AN5]
      simp [RV]
    have q1' := q1.alloc (.cells #[.int .u64 (wd (rbS P pi ta re c f 0) : Int), .int .u64 0, .int .u64 0, .int .u64 0, .int .u64 0] 100)
    have q2' := q2.alloc (.cells #[.int .u64 (wd (rbS P pi ta re c f 0) : Int), .int .u64 0, .int .u64 0, .int .u64 0, .int .u64 0] 100)
    have hb1 := hb0.alloc (by omega) (.cells #[.int .u64 (wd (rbS P pi ta re c f 0) : Int), .int .u64 0, .int .u64 0, .int .u64 0, .int .u64 0] 100)
    rw [HR1.out] at q3 q1' q2' hb1 ⊢
    have q1d : Blk (W0.alloc (.cells (AN 5 (RV (rbS P pi ta re c f) 1)) 100)).drew (w.heap.size + 1) 100 #[.int .u64 0, .int .u64 0, .int .u64 0, .int .u64 0, .int .u64 0] := q1'
    have q2d : Blk (W0.alloc (.cells (AN 5 (RV (rbS P pi ta re c f) 1)) 100)).drew w.heap.size 100 (AN 5 (RV f (k + 1))) := q2'
    have q3d : Blk (W0.alloc (.cells (AN 5 (RV (rbS P pi ta re c f) 1)) 100)).drew (w.heap.size + 2) 100 (AN 5 (RV (rbS P pi ta re c f) 1)) := q3
    have hb1d := hb1.drew
    clear HR1 q1 q2 q3 q1' q2' hb1 hb0 hkk hhv hhv' ho0 ho0' hhA hoA hsW
    have HRN : Hid (∀ e, wd (rbS P pi ta re c f (e + 1)) = wd (fun j => up (fun i => f (e + 1) i && hv P c i) j || edd pi ta re (f e) (rbS P pi ta re c f e) j)) := fun e => rfl
    generalize (W0.alloc (.cells (AN 5 (RV (rbS P pi ta re c f) 1)) 100)).drew = W1 at *
    generalize hR : rbS P pi ta re c f = R at *
    have HRE : Hid (rbS P pi ta re c f = R) := hR
    clear hR
    obtain ⟨G, hG⟩ : ∃ G, G = w.heap.size := ⟨_, rfl⟩
    have HG : Hid (G = w.heap.size) := hG
    rw [← hG] at q1d q2d q3d hb1d HED HK ⊢
    clear hG
    go_wp2_with fail
    go_loopw [8] (fun iv wr => ∃ e : Nat, 1 ≤ e ∧ e ≤ k + 1 ∧ iv = .int .i64 (e : Int) ∧ Blk wr (G + 1) 100 #[.int .u64 0, .int .u64 0, .int .u64 0, .int .u64 0, .int .u64 0] ∧ Blk wr G 100 (AN 5 (RV f (k + 1))) ∧ Blk wr (G + 2) 100 (AN 5 (RV R e)) ∧ Below G w wr) (fun iv _ => k + 1 - (intOf iv).toNat)
    case atStart => exact ⟨1, Nat.le_refl _, by omega, rfl, q1d, q2d, q3d, hb1d⟩
    case round =>
      clear q1d q2d q3d hb1d
      obtain ⟨e, he1, he2, rfl, p0, pf, p1, hb⟩ := hrel
      obtain ⟨hkc, hhc⟩ := HK.out wr hb
      by_cases hlt : e < k + 1
      · obtain ⟨d, rfl⟩ : ∃ d, e = d + 1 := ⟨e - 1, by omega⟩
        have hc1 : wr.cell? ⟨G + 2, d, none⟩ = some (.int .u64 (wd (R d) : Int)) := by
          have := p1.cellAN (j := d) (by omega)
          rwa [RV_at _ _ _ (Nat.lt_succ_self d)] at this
        have hc2 := p1.cellAN (j := d + 1) (by omega)
        have hf1 : wr.cell? ⟨G, d, none⟩ = some (.int .u64 (wd (f d) : Int)) := by
          have := pf.cellAN (j := d) (by omega)
          rwa [RV_at _ _ _ (by omega)] at this
        have hf2 : wr.cell? ⟨G, d + 1, none⟩ = some (.int .u64 (wd (f (d + 1)) : Int)) := by
          have := pf.cellAN (j := d + 1) (by omega)
          rwa [RV_at _ _ _ (by omega)] at this
        have hbd := hb.drew
        have HC : Hid _ := HED.out wr.drew hbd (f d) (R d)
        have hd1 : (d + 1 : Int) ≤ (k : Int) := by omega
        have hfz := p1.free (d + 1)
        have hc1' : wr.drew.cell? ⟨G + 2, d, none⟩ = some (.int .u64 (wd (R d) : Int)) := hc1
        have hc2' : wr.drew.cell? ⟨G + 2, d + 1, none⟩ = some (RV R (d + 1) (d + 1)) := hc2
        have hf1' : wr.drew.cell? ⟨G, d, none⟩ = some (.int .u64 (wd (f d) : Int)) := hf1
        have hf2' : wr.drew.cell? ⟨G, d + 1, none⟩ = some (.int .u64 (wd (f (d + 1)) : Int)) := hf2
        have hhc' : wr.drew.cell? ⟨gS, 2 + c.toNat, none⟩ = some (.int .u64 (wd (hv P c) : Int)) := hhc
        have hfz' : wr.drew.frozen? ⟨G + 2, d + 1, none⟩ = false := hfz
        have hdI : (d + 1 : Int) < 5 := by omega
        have hdI2 : (d : Int) < 5 := by omega
        have hdI3 : (0 : Int) ≤ (d : Int) + 1 := by omega
        have hdI4 : (0 : Int) ≤ (d : Int) := by omega
        have hwd : IntKind.i64.wrap (d : Int) = (d : Int) := by simp only [IntKind.wrap_i64]; omega
        have HN : Hid (∀ w2 : World, Blk w2 (G + 2) 100 (AN 5 (RV R (d + 1))) → Blk (w2.setCell ⟨G + 2, d + 1, none⟩ (.int .u64 (wd (R (d + 1)) : Int))) (G + 2) 100 (AN 5 (RV R (d + 1 + 1)))) := fun w2 hw => by
          have := Blk.setAN hw (d + 1) (.int .u64 (wd (R (d + 1)) : Int))
          rwa [RV_next] at this
        clear HED HK
        go_upto_region 5 with fail
        refine region_tail 24 (by kernel_rfl) ?_
        simp only [List.take_succ_cons, List.take_zero, List.drop_succ_cons, List.drop_zero]
        repeat (refine wpStill_step (fun K hK => ?_); go_simp; refine hK _ ?_; clear hK K)
        refine wpStill_step (fun K hK => ?_)
        go_simp
        refine ⟨_, HC.out, hK _ ?_⟩
        clear hK K HC
        repeat (refine wpStill_step (fun K hK => ?_); go_simp; refine hK _ ?_; clear hK K)
        refine wpStill_nil ?_
        go_wp2
        go_roundw
        case rel =>
          refine ⟨d + 1 + 1, by omega, by omega, by go_num, ?_, ?_, ?_, ?_⟩
          · exact Blk.setOther (w := wr.drew) p0 (by show G + 1 ≠ G + 2; omega) _
          · exact Blk.setOther (w := wr.drew) pf (by show G ≠ G + 2; omega) _
          · have h1 := HN.out wr.drew p1
            rw [HRN.out, ← or_wd, ← wrap_up, ← and_wd] at h1
            exact h1
          · exact hbd.setCell (by show G ≤ G + 2; omega) _
        case measure => simp [intOf]; omega
      · obtain rfl : e = k + 1 := by omega
        have c0 : wr.cell? ⟨G + 2, 0, none⟩ = some (RV R (k + 1) 0) := p1.cellAN (by decide)
        have c1 : wr.cell? ⟨G + 2, 1, none⟩ = some (RV R (k + 1) 1) := p1.cellAN (by decide)
        have c2 : wr.cell? ⟨G + 2, 2, none⟩ = some (RV R (k + 1) 2) := p1.cellAN (by decide)
        have c3 : wr.cell? ⟨G + 2, 3, none⟩ = some (RV R (k + 1) 3) := p1.cellAN (by decide)
        have c4 : wr.cell? ⟨G + 2, 4, none⟩ = some (RV R (k + 1) 4) := p1.cellAN (by decide)
        have f0 := p0.free 0
        have f1 := p0.free 1
        have f2 := p0.free 2
        have f3 := p0.free 3
        have f4 := p0.free 4
        have e0 := p0.cell 0
        have e1 := p0.cell 1
        have e2 := p0.cell 2
        have e3 := p0.cell 3
        have e4 := p0.cell 4
        have HV : Hid (AN 5 (RV R (k + 1)) = #[RV R (k + 1) 0, RV R (k + 1) 1, RV R (k + 1) 2, RV R (k + 1) 3, RV R (k + 1) 4]) := AN5 _
        obtain ⟨X0, hX0⟩ : ∃ X : Nat, RV R (k + 1) 0 = .int .u64 (X : Int) := ⟨_, rfl⟩
        obtain ⟨X1, hX1⟩ : ∃ X : Nat, RV R (k + 1) 1 = .int .u64 (X : Int) := ⟨_, rfl⟩
        obtain ⟨X2, hX2⟩ : ∃ X : Nat, RV R (k + 1) 2 = .int .u64 (X : Int) := ⟨_, rfl⟩
        obtain ⟨X3, hX3⟩ : ∃ X : Nat, RV R (k + 1) 3 = .int .u64 (X : Int) := ⟨_, rfl⟩
        obtain ⟨X4, hX4⟩ : ∃ X : Nat, RV R (k + 1) 4 = .int .u64 (X : Int) := ⟨_, rfl⟩
        rw [hX0] at c0 HV
        rw [hX1] at c1 HV
        rw [hX2] at c2 HV
        rw [hX3] at c3 HV
        rw [hX4] at c4 HV
        clear HED HK HRN hX0 hX1 hX2 hX3 hX4
        have HB : Hid (Below G w wr) := hb
        clear hb p1 pf
        go_wp2
        exact bodyPost_ret (v := .agg #[.int .u64 (X0 : Int), .int .u64 (X1 : Int), .int .u64 (X2 : Int), .int .u64 (X3 : Int), .int .u64 (X4 : Int)]) (results_cell_row (P := Tryz.prog) rfl _ _ (G + 1) 100 _ (0, 0) _ rfl (((((p0.set 0 _).set 1 _).set 2 _).set 3 _).set 4 _) Tryz.underlying100 rfl infoRe) rfl ⟨by rw [HRE.out, HV.out], by rw [← HG.out]; exact ((((HB.out.setCell (by show G ≤ G + 1; omega) _).setCell (by show G ≤ G + 1; omega) _).setCell (by show G ≤ G + 1; omega) _).setCell (by show G ≤ G + 1; omega) _).setCell (by show G ≤ G + 1; omega) _⟩
end Go.Proofs.YtkebgnpifmcmaabGreat
