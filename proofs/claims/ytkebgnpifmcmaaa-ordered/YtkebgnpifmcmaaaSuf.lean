/- The order of suffixes; suffix arrays; there is one. Plain mathematics. -/
import Derived.Test.YtkebgnpifmcmaaaRing
namespace Go.Proofs.Ytkebgnpifmcmaaa

def bl (x y : List UInt8) : Bool := Op.bytesLess x y
theorem bl_nil_right (x : List UInt8) : bl x [] = false := by unfold bl; cases x <;> rfl
theorem bl_nil_cons (b : UInt8) (y : List UInt8) : bl [] (b :: y) = true := rfl
theorem bl_cons (a b : UInt8) (x y : List UInt8) : bl (a :: x) (b :: y) = (decide (a < b) || (a == b && bl x y)) := rfl
theorem bl_irrefl (x : List UInt8) : bl x x = false := by
  induction x with
  | nil => rfl
  | cons a x ih => rw [bl_cons, ih]; simp
theorem u8_lt_iff (a b : UInt8) : a < b ↔ a.toNat < b.toNat := UInt8.lt_iff_toNat_lt
theorem u8_eq_iff (a b : UInt8) : a = b ↔ a.toNat = b.toNat := ⟨fun h => by rw [h], fun h => UInt8.toNat_inj.1 h⟩
theorem bl_cons_iff (a b : UInt8) (x y : List UInt8) : bl (a :: x) (b :: y) = true ↔ a.toNat < b.toNat ∨ (a.toNat = b.toNat ∧ bl x y = true) := by
  rw [bl_cons]; simp [u8_lt_iff, u8_eq_iff]
theorem bl_asymm {x y : List UInt8} (h : bl x y = true) : bl y x = false := by
  induction x generalizing y with
  | nil => exact bl_nil_right _
  | cons a x ih =>
    cases y with
    | nil => rw [bl_nil_right] at h; cases h
    | cons b y =>
      rw [← Bool.not_eq_true, bl_cons_iff]
      rcases (bl_cons_iff a b x y).1 h with d | ⟨d, e⟩
      · rintro (z | ⟨z, _⟩) <;> omega
      · rintro (z | ⟨_, z⟩)
        · omega
        · rw [ih e] at z; cases z
theorem bl_trans {x y z : List UInt8} (h : bl x y = true) (h' : bl y z = true) : bl x z = true := by
  induction x generalizing y z with
  | nil =>
    cases z with
    | nil => rw [bl_nil_right] at h'; cases h'
    | cons c z => rfl
  | cons a x ih =>
    cases y with
    | nil => rw [bl_nil_right] at h; cases h
    | cons b y =>
      cases z with
      | nil => rw [bl_nil_right] at h'; cases h'
      | cons c z =>
        rw [bl_cons_iff] at h h' ⊢
        rcases h with d | ⟨d, e⟩
        · rcases h' with d' | ⟨d', _⟩
          · exact .inl (by omega)
          · exact .inl (by omega)
        · rcases h' with d' | ⟨d', e'⟩
          · exact .inl (by omega)
          · exact .inr ⟨by omega, ih e e'⟩
theorem bl_total {x y : List UInt8} (h : x ≠ y) : bl x y = true ∨ bl y x = true := by
  induction x generalizing y with
  | nil =>
    cases y with
    | nil => exact absurd rfl h
    | cons b y => exact .inl rfl
  | cons a x ih =>
    cases y with
    | nil => exact .inr rfl
    | cons b y =>
      rw [bl_cons_iff, bl_cons_iff]
      rcases Nat.lt_trichotomy a.toNat b.toNat with d | d | d
      · exact .inl (.inl d)
      · have hab := (u8_eq_iff a b).2 d
        subst hab
        have : x ≠ y := fun e => h (by rw [e])
        rcases ih this with e | e
        · exact .inl (.inr ⟨rfl, e⟩)
        · exact .inr (.inr ⟨rfl, e⟩)
      · exact .inr (.inl d)

/-- The suffix from a goes ahead of that from b. -/
def sl (t : List UInt8) (a b : Nat) : Bool := bl (t.drop a) (t.drop b)
theorem drop_ne {t : List UInt8} {a b : Nat} (ha : a ≤ t.length) (hb : b ≤ t.length) (h : a ≠ b) : t.drop a ≠ t.drop b := by
  intro e
  have := congrArg List.length e
  simp at this; omega
theorem sl_total {t : List UInt8} {a b : Nat} (ha : a ≤ t.length) (hb : b ≤ t.length) (h : a ≠ b) : sl t a b = true ∨ sl t b a = true := bl_total (drop_ne ha hb h)
theorem sl_irrefl (t : List UInt8) (a : Nat) : sl t a a = false := bl_irrefl _
theorem sl_asymm {t : List UInt8} {a b : Nat} (h : sl t a b = true) : sl t b a = false := bl_asymm h
theorem sl_trans {t : List UInt8} {a b c : Nat} (h : sl t a b = true) (h' : sl t b c = true) : sl t a c = true := bl_trans h h'

/-- f tells the places of the suffixes of t, in the order of the suffixes. -/
structure IsSA (t : List UInt8) (f : Nat → Nat) : Prop where
  le : ∀ i, i ≤ t.length → f i ≤ t.length
  lt : ∀ i j, i < j → j ≤ t.length → sl t (f i) (f j) = true
theorem IsSA.inj {t : List UInt8} {f : Nat → Nat} (F : IsSA t f) {i j : Nat} (hi : i ≤ t.length) (hj : j ≤ t.length) (e : f i = f j) : i = j := by
  rcases Nat.lt_trichotomy i j with d | d | d
  · have := F.lt i j d hj; rw [e, sl_irrefl] at this; cases this
  · exact d
  · have := F.lt j i d hi; rw [e, sl_irrefl] at this; cases this
theorem IsSA.surj {t : List UInt8} {f : Nat → Nat} (F : IsSA t f) {x : Nat} (hx : x ≤ t.length) : ∃ i, i ≤ t.length ∧ f i = x := by
  obtain ⟨i, hi, e⟩ := surj_of_inj (t.length + 1) f (fun i hi => by have := F.le i (by omega); omega) (fun i j hi hj e => F.inj (by omega) (by omega) e) x (by omega)
  exact ⟨i, by omega, e⟩
theorem IsSA.lt_iff {t : List UInt8} {f : Nat → Nat} (F : IsSA t f) {i j : Nat} (hi : i ≤ t.length) (hj : j ≤ t.length) : sl t (f i) (f j) = true ↔ i < j := by
  refine ⟨fun h => ?_, fun h => F.lt i j h hj⟩
  rcases Nat.lt_trichotomy i j with d | d | d
  · exact d
  · subst d; rw [sl_irrefl] at h; cases h
  · have := F.lt j i d hi; rw [sl_asymm this] at h; cases h
theorem IsSA.unique {t : List UInt8} {f g : Nat → Nat} (F : IsSA t f) (G : IsSA t g) : ∀ i, i ≤ t.length → f i = g i := by
  intro i
  induction i using Nat.strongRecOn with
  | _ i ih =>
    intro hi
    obtain ⟨k, hk, ek⟩ := G.surj (F.le i hi)
    obtain ⟨k', hk', ek'⟩ := F.surj (G.le i hi)
    have h1 : ¬ k < i := fun h => by
      have := ih k h hk
      have := F.inj (i := i) (j := k) hi hk (by omega)
      omega
    have h2 : ¬ k' < i := fun h => by
      have := ih k' h hk'
      have := G.inj (i := i) (j := k') hi hk' (by omega)
      omega
    by_cases e : k = i
    · subst e; exact ek.symm
    · by_cases e' : k' = i
      · subst e'; exact ek'
      · have a := G.lt i k (by omega) hk
        have b := F.lt i k' (by omega) hk'
        rw [ek] at a
        rw [ek'] at b
        rw [sl_asymm a] at b; cases b

/-- The ring of a text. -/
def ringL (t : List UInt8) (i : Nat) : Nat := match t[i]? with | some c => c.toNat + 1 | none => 0
theorem ringL_lt {t : List UInt8} {i : Nat} (h : i < t.length) : ringL t i = t[i].toNat + 1 := by simp [ringL, h]
theorem ringL_end {t : List UInt8} {i : Nat} (h : t.length ≤ i) : ringL t i = 0 := by simp [ringL, h]
theorem ring_less {t : List UInt8} : ∀ (m a b : Nat), a ≤ t.length → b ≤ t.length → (∀ j, j < m → RR (t.length + 1) (ringL t) (a + j) = RR (t.length + 1) (ringL t) (b + j)) →
    RR (t.length + 1) (ringL t) (a + m) < RR (t.length + 1) (ringL t) (b + m) → sl t a b = true := by
  intro m
  induction m with
  | zero =>
    intro a b ha hb _ h
    unfold RR at h
    simp only [Nat.add_zero] at h
    rw [Nat.mod_eq_of_lt (by omega), Nat.mod_eq_of_lt (by omega)] at h
    have hbl : b < t.length := by
      rcases Nat.lt_or_ge b t.length with x | x
      · exact x
      · rw [ringL_end x] at h; omega
    unfold sl
    rw [List.drop_eq_getElem_cons hbl]
    rcases Nat.lt_or_ge a t.length with x | x
    · rw [List.drop_eq_getElem_cons x, bl_cons_iff]
      rw [ringL_lt x, ringL_lt hbl] at h
      exact .inl (by omega)
    · rw [List.drop_eq_nil_of_le x]; rfl
  | succ m ih =>
    intro a b ha hb he h
    have h0 := he 0 (by omega)
    unfold RR at h0
    simp only [Nat.add_zero] at h0
    rw [Nat.mod_eq_of_lt (by omega), Nat.mod_eq_of_lt (by omega)] at h0
    rcases Nat.lt_or_ge a t.length with x | x
    · rcases Nat.lt_or_ge b t.length with y | y
      · rw [ringL_lt x, ringL_lt y] at h0
        have := ih (a + 1) (b + 1) (by omega) (by omega) (fun j hj => by have := he (j + 1) (by omega); rwa [show a + (j + 1) = a + 1 + j from by omega, show b + (j + 1) = b + 1 + j from by omega] at this) (by rwa [show a + (m + 1) = a + 1 + m from by omega, show b + (m + 1) = b + 1 + m from by omega] at h)
        unfold sl at this ⊢
        rw [List.drop_eq_getElem_cons x, List.drop_eq_getElem_cons y, bl_cons_iff]
        exact .inr ⟨by omega, this⟩
      · rw [ringL_lt x, ringL_end y] at h0; omega
    · rcases Nat.lt_or_ge b t.length with y | y
      · rw [ringL_end x, ringL_lt y] at h0; omega
      · rw [show a = b from by omega] at h; omega
theorem St.sa {t : List UInt8} {h : Nat} {o c : Nat → Nat} {kinds : Nat} (T : St (t.length + 1) (ringL t) h o c kinds) (hk : t.length + 1 ≤ kinds) : IsSA t o := by
  refine ⟨fun i hi => by have := T.ord.lt i (by omega); omega, fun i j hij hj => ?_⟩
  obtain ⟨m, _, he, hl⟩ := T.done hk i j hij (by omega)
  exact ring_less m (o i) (o j) (by have := T.ord.lt i (by omega); omega) (by have := T.ord.lt j (by omega); omega) he hl

/-- The bytes of a string. -/
def tx (s : ByteArray) : List UInt8 := s.data.toList
theorem tx_length (s : ByteArray) : (tx s).length = s.size := by simp [tx]
theorem tx_get (s : ByteArray) (i : Nat) (_h : i < s.size) (h' : i < (tx s).length) : (tx s)[i] = s[i] := by simp [tx]; rfl
theorem ringAt_tx (s : ByteArray) : ringAt s = ringL (tx s) := by
  funext i
  by_cases h : i < s.size
  · rw [ringAt_lt s i h, ringL_lt (by rw [tx_length]; exact h), tx_get s i h]; rfl
  · rw [ringAt_end s i h, ringL_end (by rw [tx_length]; omega)]

end Go.Proofs.Ytkebgnpifmcmaaa
