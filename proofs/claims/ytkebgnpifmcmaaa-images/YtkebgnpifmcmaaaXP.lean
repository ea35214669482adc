/- Counting ones: what a word's ones come to. -/
import Derived.Test.YtkebgnpifmcmaaaCnt
namespace Go.Proofs.Ytkebgnpifmcmaaa

/-- How many of the first m are true. -/
def cntB (f : Nat → Bool) : Nat → Nat
  | 0 => 0
  | m + 1 => cntB f m + (f m).toNat
theorem cntB_le (f : Nat → Bool) (m : Nat) : cntB f m ≤ m := by
  induction m with
  | zero => exact Nat.le_refl _
  | succ m ih => have := Bool.toNat_le (f m); simp only [cntB]; omega
theorem cntB_add (f : Nat → Bool) (a b : Nat) : cntB f (a + b) = cntB f a + cntB (fun j => f (a + j)) b := by
  induction b with
  | zero => rfl
  | succ b ih => rw [← Nat.add_assoc]; simp only [cntB, ih]; omega
theorem cntB_congr {f g : Nat → Bool} {m : Nat} (h : ∀ i, i < m → f i = g i) : cntB f m = cntB g m := by
  induction m with
  | zero => rfl
  | succ m ih => simp only [cntB]; rw [ih (fun i hi => h i (by omega)), h m (by omega)]
theorem cntB_mono (f : Nat → Bool) {a b : Nat} (h : a ≤ b) : cntB f a ≤ cntB f b := by
  obtain ⟨c, rfl⟩ := Nat.exists_eq_add_of_le h
  rw [cntB_add]; omega
theorem cntB_cut (f : Nat → Bool) {r m : Nat} (h : r ≤ m) : cntB (fun j => decide (j < r) && f j) m = cntB f r := by
  obtain ⟨c, rfl⟩ := Nat.exists_eq_add_of_le h
  rw [cntB_add, cntB_congr (g := f) (fun i hi => by simp [hi])]
  have : cntB (fun j => decide (r + j < r) && f (r + j)) c = cntB (fun _ => false) c := cntB_congr (fun i _ => by rw [decide_eq_false (by omega)]; rfl)
  rw [this]
  have h0 : ∀ c, cntB (fun _ => false) c = 0 := fun c => by induction c with
    | zero => rfl
    | succ c ih => simp [cntB, ih]
  rw [h0]; rfl

theorem and_split (a m y M : Nat) (ha : a < 256) (hm : m < 256) : (a + 256 * y) &&& (m + 256 * M) = (a &&& m) + 256 * (y &&& M) := by
  have h1 : ((a + 256 * y) &&& (m + 256 * M)) % 2 ^ 8 = a &&& m := by
    rw [Nat.and_mod_two_pow, show (a + 256 * y) % 2 ^ 8 = a from by omega, show (m + 256 * M) % 2 ^ 8 = m from by omega]
  have h2 : ((a + 256 * y) &&& (m + 256 * M)) / 2 ^ 8 = y &&& M := by
    rw [Nat.and_div_two_pow, show (a + 256 * y) / 2 ^ 8 = y from by omega, show (m + 256 * M) / 2 ^ 8 = M from by omega]
  have := Nat.div_add_mod ((a + 256 * y) &&& (m + 256 * M)) (2 ^ 8)
  omega

def mk8 (m : Nat) : Nat → Nat
  | 0 => 0
  | k + 1 => m + 256 * mk8 m k
def asm8 (b : Nat → Nat) : Nat → Nat
  | 0 => 0
  | k + 1 => b 0 + 256 * asm8 (fun j => b (j + 1)) k
theorem asm8_lt (b : Nat → Nat) (hb : ∀ j, b j < 256) (k : Nat) : asm8 b k < 256 ^ k := by
  induction k generalizing b with
  | zero => exact Nat.one_pos
  | succ k ih =>
    have h1 := ih (fun j => b (j + 1)) (fun j => hb _)
    have h2 := hb 0
    simp only [asm8, Nat.pow_succ]; omega

def g1 (a : Nat) : Nat := (a / 2 &&& 85) + (a &&& 85)
def g2 (a : Nat) : Nat := (a / 4 &&& 51) + (a &&& 51)
def pc8 (a : Nat) : Nat := cntB (fun i => a.testBit i) 8
theorem e1 : ∀ a, a < 256 → ∀ c, c < 2 → (a / 2 + 128 * c) &&& 85 = (a / 2) &&& 85 := by decide +kernel
theorem e2 : ∀ a, a < 256 → ∀ c, c < 4 → (a / 4 + 64 * c) &&& 51 = (a / 4) &&& 51 := by decide +kernel
theorem g1_lt : ∀ a, a < 256 → g1 a < 256 := by decide +kernel
theorem g2_lt : ∀ a, a < 256 → g2 a < 256 := by decide +kernel
theorem e3 : ∀ a, a < 256 → g2 (g1 a) % 16 ≤ 4 ∧ g2 (g1 a) / 16 ≤ 4 ∧ g2 (g1 a) % 16 + g2 (g1 a) / 16 = pc8 a := by decide +kernel

theorem st1 (k : Nat) (b : Nat → Nat) (hb : ∀ j, b j < 256) : ((asm8 b k) / 2 &&& mk8 85 k) + (asm8 b k &&& mk8 85 k) = asm8 (fun j => g1 (b j)) k := by
  induction k generalizing b with
  | zero => simp [asm8, mk8]
  | succ k ih =>
    have h1 := ih (fun j => b (j + 1)) (fun j => hb _)
    have h0 := hb 0
    simp only [asm8, mk8]
    generalize asm8 (fun j => b (j + 1)) k = Y at *
    rw [show (b 0 + 256 * Y) / 2 = (b 0 / 2 + 128 * (Y % 2)) + 256 * (Y / 2) from by omega, and_split _ _ _ _ (by omega) (by omega), and_split _ _ _ _ h0 (by omega), e1 _ h0 _ (by omega)]
    unfold g1 at h1 ⊢
    omega
theorem st2 (k : Nat) (b : Nat → Nat) (hb : ∀ j, b j < 256) : ((asm8 b k) / 4 &&& mk8 51 k) + (asm8 b k &&& mk8 51 k) = asm8 (fun j => g2 (b j)) k := by
  induction k generalizing b with
  | zero => simp [asm8, mk8]
  | succ k ih =>
    have h1 := ih (fun j => b (j + 1)) (fun j => hb _)
    have h0 := hb 0
    simp only [asm8, mk8]
    generalize asm8 (fun j => b (j + 1)) k = Y at *
    rw [show (b 0 + 256 * Y) / 4 = (b 0 / 4 + 64 * (Y % 4)) + 256 * (Y / 4) from by omega, and_split _ _ _ _ (by omega) (by omega), and_split _ _ _ _ h0 (by omega), e2 _ h0 _ (by omega)]
    unfold g2 at h1 ⊢
    omega
theorem st3 (k : Nat) (b : Nat → Nat) (hb : ∀ j, b j % 16 ≤ 4 ∧ b j / 16 ≤ 4) : ((asm8 b k) / 16 + asm8 b k) &&& mk8 15 k = asm8 (fun j => b j % 16 + b j / 16) k := by
  induction k generalizing b with
  | zero => simp [asm8, mk8]
  | succ k ih =>
    have h1 := ih (fun j => b (j + 1)) (fun j => hb _)
    have h0 := hb 0
    have hy : asm8 (fun j => b (j + 1)) k % 16 ≤ 4 := by
      cases k with
      | zero => simp [asm8]
      | succ k => have := hb (0 + 1); simp only [asm8]; omega
    simp only [asm8, mk8]
    generalize asm8 (fun j => b (j + 1)) k = Y at *
    rw [show (b 0 + 256 * Y) / 16 + (b 0 + 256 * Y) = (b 0 / 16 + b 0 + 16 * (Y % 16)) + 256 * (Y / 16 + Y) from by omega, and_split _ _ _ _ (by omega) (by omega), h1]
    rw [show (15 : Nat) = 2 ^ 4 - 1 from rfl, Nat.and_two_pow_sub_one_eq_mod]
    omega

/-- A word's bytes. -/
theorem asm8_bytes (k x : Nat) (hx : x < 256 ^ k) : asm8 (fun j => x / 256 ^ j % 256) k = x := by
  induction k generalizing x with
  | zero => simp at hx; simp [asm8, hx]
  | succ k ih =>
    have h1 := ih (x / 256) (by rw [Nat.pow_succ] at hx; omega)
    simp only [asm8, Nat.pow_zero, Nat.div_one]
    have h2 : (fun j => x / 256 ^ (j + 1) % 256) = fun j => x / 256 / 256 ^ j % 256 := by
      funext j; rw [Nat.pow_succ, Nat.mul_comm, Nat.div_div_eq_div_mul]
    rw [h2, h1]; omega

theorem byte_testBit (x j i : Nat) (hi : i < 8) : (x / 256 ^ j % 256).testBit i = x.testBit (8 * j + i) := by
  rw [show (256 : Nat) = 2 ^ 8 from rfl, Nat.testBit_mod_two_pow, ← Nat.pow_mul, Nat.testBit_div_two_pow]
  simp [hi, Nat.add_comm]

theorem asm8_snoc (b : Nat → Nat) (k : Nat) : asm8 b (k + 1) = asm8 b k + 256 ^ k * b k := by
  induction k generalizing b with
  | zero => simp [asm8]
  | succ k ih =>
    rw [asm8, ih, asm8, Nat.pow_succ, Nat.mul_add, Nat.mul_comm (256 ^ k) 256, Nat.mul_assoc]
    omega
theorem asm8_add (a b : Nat → Nat) (k : Nat) : asm8 a k + asm8 b k = asm8 (fun j => a j + b j) k := by
  induction k generalizing a b with
  | zero => rfl
  | succ k ih => have := ih (fun j => a (j + 1)) (fun j => b (j + 1)); simp only [asm8] at this ⊢; omega
theorem asm8_div (b : Nat → Nat) (k : Nat) (h0 : b 0 < 256) (hk : b (k + 1) = 0) : asm8 b (k + 1) / 256 = asm8 (fun j => b (j + 1)) (k + 1) := by
  rw [asm8_snoc (fun j => b (j + 1)), hk, asm8]; omega
theorem asm8_bound (b : Nat → Nat) (M k : Nat) (h : ∀ j, b j ≤ M) : asm8 b k ≤ M * mk8 1 k := by
  induction k generalizing b with
  | zero => simp [asm8]
  | succ k ih =>
    have h1 := ih (fun j => b (j + 1)) (fun j => h _)
    have h0 := h 0
    simp only [asm8, mk8]
    rw [Nat.mul_add, Nat.mul_left_comm M 256]
    omega

theorem pop_tail (p : Nat → Nat) (hp : ∀ j, p j ≤ 8) (hz : ∀ j, 8 ≤ j → p j = 0) (G : Nat) (hG : asm8 p 8 = G) :
    (((G + G / 256) + (G + G / 256) / 65536) + ((G + G / 256) + (G + G / 256) / 65536) / 4294967296) % 128 = p 0 + p 1 + p 2 + p 3 + p 4 + p 5 + p 6 + p 7 := by
  subst hG
  have hd : ∀ x, x / 65536 = x / 256 / 256 := fun x => by omega
  have hd4 : ∀ x, x / 4294967296 = x / 256 / 256 / 256 / 256 := fun x => by omega
  rw [hd, hd4]
  rw [asm8_div p 7 (by have := hp 0; omega) (hz _ (by omega)), asm8_add]
  rw [asm8_div _ 7 (by have := hp 0; have := hp 1; simp only [Nat.zero_add]; omega) (by rw [hz _ (by omega), hz _ (by omega)])]
  rw [asm8_div _ 7 (by have := hp 1; have := hp 2; simp only [Nat.zero_add, Nat.reduceAdd]; omega) (by rw [hz _ (by omega), hz _ (by omega)]), asm8_add]
  have hs : ∀ j, p j + p (j + 1) + (p (j + 1 + 1) + p (j + 1 + 1 + 1)) ≤ 32 := fun j => by have := hp j; have := hp (j + 1); have := hp (j + 1 + 1); have := hp (j + 1 + 1 + 1); omega
  have hsz : ∀ j, 8 ≤ j → p j + p (j + 1) + (p (j + 1 + 1) + p (j + 1 + 1 + 1)) = 0 := fun j hj => by rw [hz _ (by omega), hz _ (by omega), hz _ (by omega), hz _ (by omega)]
  generalize hq : (fun j => p j + p (j + 1) + (p (j + 1 + 1) + p (j + 1 + 1 + 1))) = q
  have hq1 : ∀ j, q j ≤ 32 := fun j => by rw [← hq]; exact hs j
  have hqz : ∀ j, 8 ≤ j → q j = 0 := fun j hj => by rw [← hq]; exact hsz j hj
  rw [asm8_div q 7 (by have := hq1 0; omega) (hqz _ (by omega))]
  rw [asm8_div (fun j => q (j + 1)) 7 (by have := hq1 (0 + 1); omega) (hqz _ (by omega))]
  rw [asm8_div (fun j => q (j + 1 + 1)) 7 (by have := hq1 (0 + 1 + 1); omega) (hqz _ (by omega))]
  rw [asm8_div (fun j => q (j + 1 + 1 + 1)) 7 (by have := hq1 (0 + 1 + 1 + 1); omega) (hqz _ (by omega)), asm8_add, asm8]
  have h0 := hq1 0
  have h4 := hq1 (0 + 1 + 1 + 1 + 1)
  have e0 : q 0 = p 0 + p 1 + (p 2 + p 3) := by rw [← hq]
  have e4 : q (0 + 1 + 1 + 1 + 1) = p 4 + p 5 + (p 6 + p 7) := by rw [← hq]
  generalize asm8 _ 7 = Z
  omega

/-- The ones of a word, as the program reckons them. -/
theorem pop_steps (x : Nat) (hx : x < 2 ^ 64) : ∃ C F G : Nat, (x / 2 &&& 6148914691236517205) + (x &&& 6148914691236517205) = C ∧ C < 18446744073709551616 ∧ (C / 4 &&& 3689348814741910323) + (C &&& 3689348814741910323) = F ∧ F < 9223372036854775808 ∧ (F / 16 + F) &&& 1085102592571150095 = G ∧ G < 1152921504606846976 ∧
    (((G + G / 256) + (G + G / 256) / 65536) + ((G + G / 256) + (G + G / 256) / 65536) / 4294967296) % 128 = cntB (fun i => x.testBit i) 64 := by
  let b : Nat → Nat := fun j => x / 256 ^ j % 256
  have hb : ∀ j, b j < 256 := fun j => Nat.mod_lt _ (by omega)
  have hxb : asm8 b 8 = x := asm8_bytes 8 x (by simpa using hx)
  have h1 := st1 8 b hb
  have h2 := st2 8 (fun j => g1 (b j)) (fun j => g1_lt _ (hb j))
  have h3 := st3 8 (fun j => g2 (g1 (b j))) (fun j => ⟨(e3 _ (hb j)).1, (e3 _ (hb j)).2.1⟩)
  rw [hxb] at h1
  have hC := asm8_lt (fun j => g1 (b j)) (fun j => g1_lt _ (hb j)) 8
  have hF := asm8_bound (fun j => g2 (g1 (b j))) 68 8 (fun j => by have := e3 _ (hb j); omega)
  have hp : ∀ j, g2 (g1 (b j)) % 16 + g2 (g1 (b j)) / 16 = pc8 (b j) := fun j => (e3 _ (hb j)).2.2
  rw [show (fun j => g2 (g1 (b j)) % 16 + g2 (g1 (b j)) / 16) = fun j => pc8 (b j) from funext hp] at h3
  have hpl : ∀ j, pc8 (b j) ≤ 8 := fun j => cntB_le _ _
  have hG := asm8_bound (fun j => pc8 (b j)) 8 8 hpl
  have hpz : ∀ j, 8 ≤ j → pc8 (b j) = 0 := fun j hj => by
    have : b j = 0 := by
      show x / 256 ^ j % 256 = 0
      have h256 : x < 256 ^ j := Nat.lt_of_lt_of_le (by simpa using hx) (Nat.pow_le_pow_right (n := 256) (by omega) hj)
      rw [Nat.div_eq_of_lt h256]
    rw [this]; decide
  have ht := pop_tail (fun j => pc8 (b j)) hpl hpz _ rfl
  have hpc : ∀ j, pc8 (b j) = cntB (fun i => x.testBit (8 * j + i)) 8 := fun j => cntB_congr (fun i hi => byte_testBit x j i hi)
  have htot : cntB (fun i => x.testBit i) 64 = pc8 (b 0) + pc8 (b 1) + pc8 (b 2) + pc8 (b 3) + pc8 (b 4) + pc8 (b 5) + pc8 (b 6) + pc8 (b 7) := by
    simp only [hpc]
    rw [show (64 : Nat) = 8 + 8 + 8 + 8 + 8 + 8 + 8 + 8 from rfl]
    simp only [cntB_add]
    simp only [Nat.reduceMul, Nat.reduceAdd, Nat.zero_add]
  have m1 : mk8 1 8 = 72340172838076673 := by decide
  rw [m1] at hF hG
  refine ⟨_, _, _, h1, by simpa using hC, h2, Nat.lt_of_le_of_lt hF (by decide), h3, Nat.lt_of_le_of_lt hG (by decide), ?_⟩
  rw [ht, htot]
end Go.Proofs.Ytkebgnpifmcmaaa
