/- The doubling of beginnings on a ring. Plain mathematics. -/
import Derived.Test.YtkebgnpifmcmaaaWC
namespace Go.Proofs.Ytkebgnpifmcmaaa
section
variable (N : Nat) (r : Nat → Nat)

def RR (x : Nat) : Nat := r (x % N)
def EqH (h a b : Nat) : Prop := ∀ j, j < h → RR N r (a + j) = RR N r (b + j)
def LtH (h a b : Nat) : Prop := ∃ m, m < h ∧ (∀ j, j < m → RR N r (a + j) = RR N r (b + j)) ∧ RR N r (a + m) < RR N r (b + m)

variable {N r}
theorem EqH.refl (h a : Nat) : EqH N r h a a := fun _ _ => rfl
theorem EqH.symm {h a b : Nat} (e : EqH N r h a b) : EqH N r h b a := fun j hj => (e j hj).symm
theorem EqH.trans {h a b c : Nat} (e : EqH N r h a b) (e' : EqH N r h b c) : EqH N r h a c := fun j hj => (e j hj).trans (e' j hj)
theorem LtH.not_eq {h a b : Nat} (l : LtH N r h a b) (e : EqH N r h a b) : False := by
  obtain ⟨m, hm, _, hl⟩ := l
  have := e m hm; omega
theorem LtH.irrefl {h a : Nat} (l : LtH N r h a a) : False := l.not_eq (EqH.refl h a)
theorem LtH.asymm {h a b : Nat} (l : LtH N r h a b) (l' : LtH N r h b a) : False := by
  obtain ⟨m, hm, he, hl⟩ := l
  obtain ⟨m', hm', he', hl'⟩ := l'
  rcases Nat.lt_trichotomy m m' with d | d | d
  · have := he' m d; omega
  · subst d; omega
  · have := he m' d; omega
theorem LtH.trans {h a b c : Nat} (l : LtH N r h a b) (l' : LtH N r h b c) : LtH N r h a c := by
  obtain ⟨m, hm, he, hl⟩ := l
  obtain ⟨m', hm', he', hl'⟩ := l'
  rcases Nat.lt_trichotomy m m' with d | d | d
  · exact ⟨m, hm, fun j hj => (he j hj).trans (he' j (by omega)), by have := he' m d; omega⟩
  · subst d; exact ⟨m, hm, fun j hj => (he j hj).trans (he' j hj), by omega⟩
  · exact ⟨m', hm', fun j hj => (he j (by omega)).trans (he' j hj), by have := he m' d; omega⟩
theorem LtH.trans_eq {h a b c : Nat} (l : LtH N r h a b) (e : EqH N r h b c) : LtH N r h a c := by
  obtain ⟨m, hm, he, hl⟩ := l
  exact ⟨m, hm, fun j hj => (he j hj).trans (e j (by omega)), by have := e m hm; omega⟩
theorem EqH.trans_lt {h a b c : Nat} (e : EqH N r h a b) (l : LtH N r h b c) : LtH N r h a c := by
  obtain ⟨m, hm, he, hl⟩ := l
  exact ⟨m, hm, fun j hj => (e j (by omega)).trans (he j hj), by have := e m hm; omega⟩
theorem EqH.three (h a b : Nat) : EqH N r h a b ∨ LtH N r h a b ∨ LtH N r h b a := by
  induction h with
  | zero => exact .inl (fun j hj => by omega)
  | succ h ih =>
    rcases ih with e | ⟨m, hm, he, hl⟩ | ⟨m, hm, he, hl⟩
    · rcases Nat.lt_trichotomy (RR N r (a + h)) (RR N r (b + h)) with d | d | d
      · exact .inr (.inl ⟨h, by omega, e, d⟩)
      · refine .inl (fun j hj => ?_)
        by_cases x : j = h
        · subst x; exact d
        · exact e j (by omega)
      · exact .inr (.inr ⟨h, by omega, fun j hj => (e j hj).symm, d⟩)
    · exact .inr (.inl ⟨m, by omega, he, hl⟩)
    · exact .inr (.inr ⟨m, by omega, he, hl⟩)
theorem EqH.double (h k a b : Nat) : EqH N r (h + k) a b ↔ EqH N r h a b ∧ EqH N r k (a + h) (b + h) := by
  constructor
  · intro e
    exact ⟨fun j hj => e j (by omega), fun j hj => by have := e (h + j) (by omega); rwa [← Nat.add_assoc, ← Nat.add_assoc] at this⟩
  · rintro ⟨e, e'⟩ j hj
    by_cases x : j < h
    · exact e j x
    · have := e' (j - h) (by omega)
      rwa [Nat.add_assoc, Nat.add_assoc, show h + (j - h) = j from by omega] at this
theorem LtH.double {h k a b : Nat} (l : LtH N r (h + k) a b) : LtH N r h a b ∨ (EqH N r h a b ∧ LtH N r k (a + h) (b + h)) := by
  obtain ⟨m, hm, he, hl⟩ := l
  by_cases x : m < h
  · exact .inl ⟨m, x, he, hl⟩
  · refine .inr ⟨fun j hj => he j (by omega), m - h, by omega, fun j hj => ?_, ?_⟩
    · have := he (h + j) (by omega); rwa [← Nat.add_assoc, ← Nat.add_assoc] at this
    · rw [Nat.add_assoc, Nat.add_assoc, show h + (m - h) = m from by omega]; exact hl
theorem RR_mod (a j : Nat) : RR N r (a % N + j) = RR N r (a + j) := by unfold RR; rw [Nat.mod_add_mod]
theorem EqH.mod {h a b : Nat} : EqH N r h (a % N) (b % N) ↔ EqH N r h a b := by unfold EqH; simp only [RR_mod]
theorem LtH.mod {h a b : Nat} : LtH N r h (a % N) (b % N) ↔ LtH N r h a b := by unfold LtH; simp only [RR_mod]

/-- The classes tell the beginnings of length h apart, in their order. -/
def Cls (N : Nat) (r : Nat → Nat) (h : Nat) (c : Nat → Nat) : Prop := ∀ a b, a < N → b < N → (c a < c b ↔ LtH N r h a b)
theorem Cls.eq {h : Nat} {c : Nat → Nat} (H : Cls N r h c) {a b : Nat} (ha : a < N) (hb : b < N) : c a = c b ↔ EqH N r h a b := by
  constructor
  · intro e
    rcases EqH.three (N := N) (r := r) h a b with x | x | x
    · exact x
    · have := (H a b ha hb).2 x; omega
    · have := (H b a hb ha).2 x; omega
  · intro e
    have h1 : ¬ c a < c b := fun x => ((H a b ha hb).1 x).not_eq e
    have h2 : ¬ c b < c a := fun x => ((H b a hb ha).1 x).not_eq e.symm
    omega

/-- The order: each place once; sorted by beginnings of length h. -/
structure Ord (N : Nat) (r : Nat → Nat) (h : Nat) (o : Nat → Nat) : Prop where
  lt : ∀ i, i < N → o i < N
  inj : ∀ i j, i < N → j < N → o i = o j → i = j
  sorted : ∀ i j, i < j → j < N → ¬ LtH N r h (o j) (o i)

theorem jd_mono (S : Nat → Nat → Bool) (o : Nat → Nat) {i j : Nat} (h : i ≤ j) : jd S o i ≤ jd S o j := by
  induction j with
  | zero => rw [show i = 0 from by omega]; exact Nat.le_refl _
  | succ j ih =>
    by_cases e : i = j + 1
    · subst e; exact Nat.le_refl _
    · have := ih (by omega); simp only [jd]; omega
theorem jd_parts {h : Nat} {o : Nat → Nat} {S : Nat → Nat → Bool} (O : Ord N r h o) (hS : ∀ a b, a < N → b < N → (S a b = true ↔ EqH N r h a b)) {i : Nat} : ∀ {j : Nat}, i ≤ j → j < N →
    (EqH N r h (o i) (o j) ∧ jd S o i = jd S o j) ∨ (LtH N r h (o i) (o j) ∧ jd S o i < jd S o j) := by
  intro j
  induction j with
  | zero => intro hij _; rw [show i = 0 from by omega]; exact .inl ⟨EqH.refl _ _, rfl⟩
  | succ j ih =>
    intro hij hj
    by_cases e : i = j + 1
    · subst e; exact .inl ⟨EqH.refl _ _, rfl⟩
    · have hle : EqH N r h (o j) (o (j + 1)) ∨ LtH N r h (o j) (o (j + 1)) := by
        rcases EqH.three (N := N) (r := r) h (o j) (o (j + 1)) with x | x | x
        · exact .inl x
        · exact .inr x
        · exact absurd x (O.sorted j (j + 1) (by omega) hj)
      have hSj := hS (o j) (o (j + 1)) (O.lt _ (by omega)) (O.lt _ hj)
      simp only [jd]
      rcases hle with x | x
      · rw [if_pos (hSj.2 x)]
        rcases ih (by omega) (by omega) with ⟨y, z⟩ | ⟨y, z⟩
        · exact .inl ⟨y.trans x, by omega⟩
        · exact .inr ⟨y.trans_eq x, by omega⟩
      · rw [if_neg (fun y => x.not_eq (hSj.1 y))]
        rcases ih (by omega) (by omega) with ⟨y, z⟩ | ⟨y, z⟩
        · exact .inr ⟨y.trans_lt x, by omega⟩
        · exact .inr ⟨y.trans x, by omega⟩

/-- What stands at the head of each round of the sort. -/
structure St (N : Nat) (r : Nat → Nat) (h : Nat) (o c : Nat → Nat) (kinds : Nat) : Prop where
  ord : Ord N r h o
  cls : Cls N r h c
  below : ∀ a, a < N → c a < kinds
  kinds_le : kinds ≤ N
  done : N ≤ kinds → ∀ i j, i < j → j < N → LtH N r h (o i) (o j)
  more : kinds < N → h < N

theorem St.of_join {h : Nat} {o f : Nat → Nat} {S : Nat → Nat → Bool} (hN : 0 < N) (hend : r (N - 1) = 0) (hpos : ∀ i, i < N - 1 → 0 < r i) (O : Ord N r h o) (hS : ∀ a b, a < N → b < N → (S a b = true ↔ EqH N r h a b))
    (hf : ∀ i, i < N → f (o i) = jd S o i) : St N r h o f (jd S o (N - 1) + 1) := by
  have hj := fun (i j : Nat) (hij : i ≤ j) (hjN : j < N) => jd_parts O hS hij hjN
  refine ⟨O, ?_, ?_, ?_, ?_, ?_⟩
  · intro a b ha hb
    obtain ⟨i, hi, rfl⟩ := surj_of_inj N o O.lt O.inj a ha
    obtain ⟨j, hjN, rfl⟩ := surj_of_inj N o O.lt O.inj b hb
    rw [hf i hi, hf j hjN]
    by_cases hij : i ≤ j
    · rcases hj i j hij hjN with ⟨x, y⟩ | ⟨x, y⟩
      · exact ⟨fun z => by omega, fun z => absurd x z.not_eq⟩
      · exact ⟨fun _ => x, fun _ => y⟩
    · have h1 := jd_mono S o (show j ≤ i by omega)
      exact ⟨fun z => by omega, fun z => absurd z (O.sorted j i (by omega) hi)⟩
  · intro a ha
    obtain ⟨i, hi, rfl⟩ := surj_of_inj N o O.lt O.inj a ha
    have := jd_mono S o (show i ≤ N - 1 by omega)
    rw [hf i hi]; omega
  · have := jd_le S o (N - 1); omega
  · intro hk i j hij hjN
    rcases hj i j (by omega) hjN with ⟨x, y⟩ | ⟨x, _⟩
    · exfalso
      -- between i and j a step is lost
      have h1 : jd S o (N - 1) ≤ N - 1 - j + jd S o j := by
        have key : ∀ m, j + m < N → jd S o (j + m) ≤ m + jd S o j := by
          intro m
          induction m with
          | zero => intro _; simp
          | succ m ih => intro hm; have := ih (by omega); rw [show j + (m + 1) = (j + m) + 1 from rfl]; simp only [jd]; split <;> omega
        have := key (N - 1 - j) (by omega)
        rwa [show j + (N - 1 - j) = N - 1 from by omega] at this
      have h2 := jd_le S o i
      omega
    · exact x
  · intro hk
    rcases Nat.lt_or_ge h N with x | x
    · exact x
    · exfalso
      have key : ∀ i, i < N → jd S o i = i := by
        intro i
        induction i with
        | zero => intro _; rfl
        | succ i ih =>
          intro hi
          have hne : o i ≠ o (i + 1) := fun e => by have := O.inj _ _ (by omega) hi e; omega
          have hnS : ¬ (S (o i) (o (i + 1)) = true) := by
            intro e
            have eq := (hS _ _ (O.lt i (by omega)) (O.lt (i + 1) hi)).1 e
            have la := O.lt i (by omega)
            have lb := O.lt (i + 1) hi
            have two : ∀ a b, a < b → b < N → EqH N r h a b → False := by
              intro a b hab hb eab
              have := eab (N - 1 - b) (by omega)
              unfold RR at this
              rw [show b + (N - 1 - b) = N - 1 from by omega, Nat.mod_eq_of_lt (show N - 1 < N by omega), hend, Nat.mod_eq_of_lt (show a + (N - 1 - b) < N by omega)] at this
              have := hpos (a + (N - 1 - b)) (by omega)
              omega
            rcases Nat.lt_or_ge (o i) (o (i + 1)) with d | d
            · exact two _ _ d lb eq
            · exact two _ _ (by omega) la eq.symm
          simp only [jd]; rw [if_neg hnS, ih (by omega)]
      have := key (N - 1) (by omega)
      omega

/-- The counting sort of places by their classes, behind an order by the second halves. -/
theorem Ord.double {h k : Nat} {o p c s : Nat → Nat} (O : Ord N r k o) (hp : ∀ i, i < N → p i < N) (hpo : ∀ i, i < N → (p i + h) % N = o i) (C : Cls N r h c) (hs : ∀ i, i < N → s (rk (fun i => c (p i)) N i) = p i) : Ord N r (h + k) s := by
  have sur := surj_of_inj N (rk (fun i => c (p i)) N) (fun i hi => rk_lt _ _ _ hi) (fun i j hi hj e => rk_inj _ _ hi hj e)
  refine ⟨?_, ?_, ?_⟩
  · intro x hx
    obtain ⟨i, hi, rfl⟩ := sur x hx
    rw [hs i hi]; exact hp i hi
  · intro x y hx hy e
    obtain ⟨i, hi, rfl⟩ := sur x hx
    obtain ⟨j, hj, rfl⟩ := sur y hy
    rw [hs i hi, hs j hj] at e
    have : o i = o j := by rw [← hpo i hi, ← hpo j hj, e]
    rw [O.inj i j hi hj this]
  · intro x y hxy hy l
    obtain ⟨i, hi, rfl⟩ := sur x (by omega)
    obtain ⟨j, hj, rfl⟩ := sur y hy
    rw [hs i hi, hs j hj] at l
    have hr := (rk_lt_iff (fun i => c (p i)) N hi hj).1 hxy
    rcases l.double with x | ⟨x, y⟩
    · have := (C (p j) (p i) (hp j hj) (hp i hi)).2 x
      rcases hr with d | ⟨d, _⟩
      · have d' : c (p i) < c (p j) := d
        omega
      · have d' : c (p i) = c (p j) := d
        omega
    · have he := (C.eq (hp j hj) (hp i hi)).2 x
      rcases hr with d | ⟨_, d⟩
      · have d' : c (p i) < c (p j) := d
        omega
      · rw [← LtH.mod, hpo j hj, hpo i hi] at y
        exact O.sorted i j d hj y

theorem halves_iff {h : Nat} {c : Nat → Nat} (hN : 0 < N) (C : Cls N r h c) (a b : Nat) (ha : a < N) (hb : b < N) : halvesB N c a b h = true ↔ EqH N r (h + h) a b := by
  unfold halvesB
  rw [Bool.and_eq_true, beq_iff_eq, beq_iff_eq, C.eq ha hb, C.eq (Nat.mod_lt _ hN) (Nat.mod_lt _ hN), EqH.mod, EqH.double]
theorem Cls.one (_hN : 0 < N) : Cls N r 1 r := by
  intro a b ha hb
  constructor
  · intro h
    refine ⟨0, by omega, fun j hj => by omega, ?_⟩
    unfold RR; rw [Nat.add_zero, Nat.add_zero, Nat.mod_eq_of_lt ha, Nat.mod_eq_of_lt hb]; exact h
  · rintro ⟨m, hm, _, hl⟩
    rw [show m = 0 from by omega] at hl
    unfold RR at hl; rwa [Nat.add_zero, Nat.add_zero, Nat.mod_eq_of_lt ha, Nat.mod_eq_of_lt hb] at hl
theorem halves_zero (a b : Nat) (hN : 0 < N) (ha : a < N) (hb : b < N) : halvesB N r a b 0 = true ↔ EqH N r 1 a b := by
  unfold halvesB
  rw [Nat.add_zero, Nat.add_zero, Nat.mod_eq_of_lt ha, Nat.mod_eq_of_lt hb, Bool.and_self, beq_iff_eq, (Cls.one hN).eq ha hb]

theorem Ord.init {s : Nat → Nat} (hN : 0 < N) (hs : ∀ i, i < N → s (rk (fun i => r i) N i) = i) : Ord N r 1 s := by
  have O0 : Ord N r 0 (fun i => (i + 1) % N) := by
    refine ⟨fun i hi => Nat.mod_lt _ hN, fun i j hi hj e => ?_, fun i j _ _ l => ?_⟩
    · have e' : (i + 1) % N = (j + 1) % N := e
      by_cases a : i + 1 = N
      · by_cases b : j + 1 = N
        · omega
        · rw [a, Nat.mod_self, Nat.mod_eq_of_lt (by omega)] at e'; omega
      · by_cases b : j + 1 = N
        · rw [b, Nat.mod_self, Nat.mod_eq_of_lt (by omega)] at e'; omega
        · rw [Nat.mod_eq_of_lt (by omega), Nat.mod_eq_of_lt (by omega)] at e'; omega
    · obtain ⟨m, hm, _⟩ := l; omega
  exact Ord.double (h := 1) (p := fun i => i) (c := r) (s := s) O0 (fun i hi => hi) (fun i hi => rfl) (Cls.one hN) hs
theorem St.init {s f : Nat → Nat} (hN : 0 < N) (hend : r (N - 1) = 0) (hpos : ∀ i, i < N - 1 → 0 < r i) (hs : ∀ i, i < N → s (rk (fun i => r i) N i) = i)
    (hf : ∀ i, i < N → f (s i) = jd (fun a b => halvesB N r a b 0) s i) : St N r 1 s f (jd (fun a b => halvesB N r a b 0) s (N - 1) + 1) :=
  St.of_join hN hend hpos (Ord.init hN hs) (fun a b ha hb => halves_zero a b hN ha hb) hf
theorem back_add (N h x : Nat) (hx : x < N) (h2 : h ≤ N) : (backBy N h x + h) % N = x := by
  unfold backBy
  rw [Nat.mod_add_mod, show x + N - h + h = x + N from by omega, Nat.add_mod_right, Nat.mod_eq_of_lt hx]
theorem St.stepOrd {h : Nat} {o c s : Nat → Nat} {kinds : Nat} (hN : 0 < N) (T : St N r h o c kinds) (hk : kinds < N)
    (hs : ∀ i, i < N → s (rk (fun i => c (backBy N h (o i))) N i) = backBy N h (o i)) : Ord N r (h + h) s := by
  have hh := T.more hk
  exact Ord.double (h := h) (p := fun i => backBy N h (o i)) T.ord (fun i hi => Nat.mod_lt _ hN) (fun i hi => back_add N h (o i) (T.ord.lt i hi) (by omega)) T.cls hs
theorem St.step {h : Nat} {o c s f : Nat → Nat} {kinds : Nat} (hN : 0 < N) (hend : r (N - 1) = 0) (hpos : ∀ i, i < N - 1 → 0 < r i) (T : St N r h o c kinds) (hk : kinds < N)
    (hs : ∀ i, i < N → s (rk (fun i => c (backBy N h (o i))) N i) = backBy N h (o i)) (hf : ∀ i, i < N → f (s i) = jd (fun a b => halvesB N c a b h) s i) :
    St N r (h + h) s f (jd (fun a b => halvesB N c a b h) s (N - 1) + 1) :=
  St.of_join hN hend hpos (T.stepOrd hN hk hs) (fun a b ha hb => halves_iff hN T.cls a b ha hb) hf
theorem St.perm {h : Nat} {o c : Nat → Nat} {kinds : Nat} (hN : 0 < N) (T : St N r h o c kinds) (hh : h ≤ N) (x : Nat) : cnt (fun i => c (backBy N h (o i))) x N = cnt c x N :=
  cnt_perm N c (fun i => backBy N h (o i)) (fun i _ => Nat.mod_lt _ hN) (fun i j hi hj e => by
    have e' : backBy N h (o i) = backBy N h (o j) := e
    have h1 := back_add N h (o i) (T.ord.lt i hi) hh
    rw [e', back_add N h (o j) (T.ord.lt j hj) hh] at h1
    exact T.ord.inj i j hi hj h1.symm) x
end
end Go.Proofs.Ytkebgnpifmcmaaa
