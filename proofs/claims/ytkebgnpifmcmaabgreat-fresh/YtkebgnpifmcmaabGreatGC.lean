import Derived.Test.YtkebgnpifmcmaabGreatGA
import Derived.Test.YtkebgnpifmcmaabGreatGB
import Derived.Laws.BitsAllLaws
import Derived.Deep.CutRange
import Derived.Deep.RegionWith
import Derived.Deep.RegionHeld3
import Derived.Conc.MuLone
import Derived.Deep.RegionLaw
/- Counting ones: what a word's ones come to. -/
namespace Go.Proofs.YtkebgnpifmcmaabGreat

/-- How many of the first m are true. -/
def cntB (f : Nat → Bool) : Nat → Nat
  | 0 => 0
  | m + 1 => cntB f m + (f m).toNat
theorem cntB_le (f : Nat → Bool) (m : Nat) : cntB f m ≤ m := by
  induction m with
  | zero => exact Nat.le_refl _
  | succ m ih => have := Bool.toNat_le (f m); simp only [cntB]; omega
theorem cntB_add (f : Nat → Bool) (a b : Nat) : cntB f (a + b) = cntB f a + cntB (fun j => f (a + j)) b := by
  induction b with
  | zero => rfl
  | succ b ih => rw [← Nat.add_assoc]; simp only [cntB, ih]; omega
theorem cntB_congr {f g : Nat → Bool} {m : Nat} (h : ∀ i, i < m → f i = g i) : cntB f m = cntB g m := by
  induction m with
  | zero => rfl
  | succ m ih => simp only [cntB]; rw [ih (fun i hi => h i (by omega)), h m (by omega)]
theorem cntB_mono (f : Nat → Bool) {a b : Nat} (h : a ≤ b) : cntB f a ≤ cntB f b := by
  obtain ⟨c, rfl⟩ := Nat.exists_eq_add_of_le h
  rw [cntB_add]; omega
theorem cntB_cut (f : Nat → Bool) {r m : Nat} (h : r ≤ m) : cntB (fun j => decide (j < r) && f j) m = cntB f r := by
  obtain ⟨c, rfl⟩ := Nat.exists_eq_add_of_le h
  rw [cntB_add, cntB_congr (g := f) (fun i hi => by simp [hi])]
  have : cntB (fun j => decide (r + j < r) && f (r + j)) c = cntB (fun _ => false) c := cntB_congr (fun i _ => by rw [decide_eq_false (by omega)]; rfl)
  rw [this]
  have h0 : ∀ c, cntB (fun _ => false) c = 0 := fun c => by induction c with
    | zero => rfl
    | succ c ih => simp [cntB, ih]
  rw [h0]; rfl

theorem and_split (a m y M : Nat) (ha : a < 256) (hm : m < 256) : (a + 256 * y) &&& (m + 256 * M) = (a &&& m) + 256 * (y &&& M) := by
  have h1 : ((a + 256 * y) &&& (m + 256 * M)) % 2 ^ 8 = a &&& m := by
    rw [Nat.and_mod_two_pow, show (a + 256 * y) % 2 ^ 8 = a from by omega, show (m + 256 * M) % 2 ^ 8 = m from by omega]
  have h2 : ((a + 256 * y) &&& (m + 256 * M)) / 2 ^ 8 = y &&& M := by
    rw [Nat.and_div_two_pow, show (a + 256 * y) / 2 ^ 8 = y from by omega, show (m + 256 * M) / 2 ^ 8 = M from by omega]
  have := Nat.div_add_mod ((a + 256 * y) &&& (m + 256 * M)) (2 ^ 8)
  omega

def mk8 (m : Nat) : Nat → Nat
  | 0 => 0
  | k + 1 => m + 256 * mk8 m k
def asm8 (b : Nat → Nat) : Nat → Nat
  | 0 => 0
  | k + 1 => b 0 + 256 * asm8 (fun j => b (j + 1)) k
theorem asm8_lt (b : Nat → Nat) (hb : ∀ j, b j < 256) (k : Nat) : asm8 b k < 256 ^ k := by
  induction k generalizing b with
  | zero => exact Nat.one_pos
  | succ k ih =>
    have h1 := ih (fun j => b (j + 1)) (fun j => hb _)
    have h2 := hb 0
    simp only [asm8, Nat.pow_succ]; omega

def g1 (a : Nat) : Nat := (a / 2 &&& 85) + (a &&& 85)
def g2 (a : Nat) : Nat := (a / 4 &&& 51) + (a &&& 51)
def pc8 (a : Nat) : Nat := cntB (fun i => a.testBit i) 8
theorem e1 : ∀ a, a < 256 → ∀ c, c < 2 → (a / 2 + 128 * c) &&& 85 = (a / 2) &&& 85 := by decide +kernel
theorem e2 : ∀ a, a < 256 → ∀ c, c < 4 → (a / 4 + 64 * c) &&& 51 = (a / 4) &&& 51 := by decide +kernel
theorem g1_lt : ∀ a, a < 256 → g1 a < 256 := by decide +kernel
theorem g2_lt : ∀ a, a < 256 → g2 a < 256 := by decide +kernel
theorem e3 : ∀ a, a < 256 → g2 (g1 a) % 16 ≤ 4 ∧ g2 (g1 a) / 16 ≤ 4 ∧ g2 (g1 a) % 16 + g2 (g1 a) / 16 = pc8 a := by decide +kernel

theorem st1 (k : Nat) (b : Nat → Nat) (hb : ∀ j, b j < 256) : ((asm8 b k) / 2 &&& mk8 85 k) + (asm8 b k &&& mk8 85 k) = asm8 (fun j => g1 (b j)) k := by
  induction k generalizing b with
  | zero => simp [asm8, mk8]
  | succ k ih =>
    have h1 := ih (fun j => b (j + 1)) (fun j => hb _)
    have h0 := hb 0
    simp only [asm8, mk8]
    generalize asm8 (fun j => b (j + 1)) k = Y at *
    rw [show (b 0 + 256 * Y) / 2 = (b 0 / 2 + 128 * (Y % 2)) + 256 * (Y / 2) from by omega, and_split _ _ _ _ (by omega) (by omega), and_split _ _ _ _ h0 (by omega), e1 _ h0 _ (by omega)]
    unfold g1 at h1 ⊢
    omega
theorem st2 (k : Nat) (b : Nat → Nat) (hb : ∀ j, b j < 256) : ((asm8 b k) / 4 &&& mk8 51 k) + (asm8 b k &&& mk8 51 k) = asm8 (fun j => g2 (b j)) k := by
  induction k generalizing b with
  | zero => simp [asm8, mk8]
  | succ k ih =>
    have h1 := ih (fun j => b (j + 1)) (fun j => hb _)
    have h0 := hb 0
    simp only [asm8, mk8]
    generalize asm8 (fun j => b (j + 1)) k = Y at *
    rw [show (b 0 + 256 * Y) / 4 = (b 0 / 4 + 64 * (Y % 4)) + 256 * (Y / 4) from by omega, and_split _ _ _ _ (by omega) (by omega), and_split _ _ _ _ h0 (by omega), e2 _ h0 _ (by omega)]
    unfold g2 at h1 ⊢
    omega
theorem st3 (k : Nat) (b : Nat → Nat) (hb : ∀ j, b j % 16 ≤ 4 ∧ b j / 16 ≤ 4) : ((asm8 b k) / 16 + asm8 b k) &&& mk8 15 k = asm8 (fun j => b j % 16 + b j / 16) k := by
  induction k generalizing b with
  | zero => simp [asm8, mk8]
  | succ k ih =>
    have h1 := ih (fun j => b (j + 1)) (fun j => hb _)
    have h0 := hb 0
    have hy : asm8 (fun j => b (j + 1)) k % 16 ≤ 4 := by
      cases k with
      | zero => simp [asm8]
      | succ k => have := hb (0 + 1); simp only [asm8]; omega
    simp only [asm8, mk8]
    generalize asm8 (fun j => b (j + 1)) k = Y at *
    rw [show (b 0 + 256 * Y) / 16 + (b 0 + 256 * Y) = (b 0 / 16 + b 0 + 16 * (Y % 16)) + 256 * (Y / 16 + Y) from by omega, and_split _ _ _ _ (by omega) (by omega), h1]
    rw [show (15 : Nat) = 2 ^ 4 - 1 from rfl, Nat.and_two_pow_sub_one_eq_mod]
    omega

/-- A word's bytes. -/
theorem asm8_bytes (k x : Nat) (hx : x < 256 ^ k) : asm8 (fun j => x / 256 ^ j % 256) k = x := by
  induction k generalizing x with
  | zero => simp at hx; simp [asm8, hx]
  | succ k ih =>
    have h1 := ih (x / 256) (by rw [Nat.pow_succ] at hx; omega)
    simp only [asm8, Nat.pow_zero, Nat.div_one]
    have h2 : (fun j => x / 256 ^ (j + 1) % 256) = fun j => x / 256 / 256 ^ j % 256 := by
      funext j; rw [Nat.pow_succ, Nat.mul_comm, Nat.div_div_eq_div_mul]
    rw [h2, h1]; omega

theorem byte_testBit (x j i : Nat) (hi : i < 8) : (x / 256 ^ j % 256).testBit i = x.testBit (8 * j + i) := by
  rw [show (256 : Nat) = 2 ^ 8 from rfl, Nat.testBit_mod_two_pow, ← Nat.pow_mul, Nat.testBit_div_two_pow]
  simp [hi, Nat.add_comm]

theorem asm8_snoc (b : Nat → Nat) (k : Nat) : asm8 b (k + 1) = asm8 b k + 256 ^ k * b k := by
  induction k generalizing b with
  | zero => simp [asm8]
  | succ k ih =>
    rw [asm8, ih, asm8, Nat.pow_succ, Nat.mul_add, Nat.mul_comm (256 ^ k) 256, Nat.mul_assoc]
    omega
theorem asm8_add (a b : Nat → Nat) (k : Nat) : asm8 a k + asm8 b k = asm8 (fun j => a j + b j) k := by
  induction k generalizing a b with
  | zero => rfl
  | succ k ih => have := ih (fun j => a (j + 1)) (fun j => b (j + 1)); simp only [asm8] at this ⊢; omega
theorem asm8_div (b : Nat → Nat) (k : Nat) (h0 : b 0 < 256) (hk : b (k + 1) = 0) : asm8 b (k + 1) / 256 = asm8 (fun j => b (j + 1)) (k + 1) := by
  rw [asm8_snoc (fun j => b (j + 1)), hk, asm8]; omega
theorem asm8_bound (b : Nat → Nat) (M k : Nat) (h : ∀ j, b j ≤ M) : asm8 b k ≤ M * mk8 1 k := by
  induction k generalizing b with
  | zero => simp [asm8]
  | succ k ih =>
    have h1 := ih (fun j => b (j + 1)) (fun j => h _)
    have h0 := h 0
    simp only [asm8, mk8]
    rw [Nat.mul_add, Nat.mul_left_comm M 256]
    omega

theorem pop_tail (p : Nat → Nat) (hp : ∀ j, p j ≤ 8) (hz : ∀ j, 8 ≤ j → p j = 0) (G : Nat) (hG : asm8 p 8 = G) :
    (((G + G / 256) + (G + G / 256) / 65536) + ((G + G / 256) + (G + G / 256) / 65536) / 4294967296) % 128 = p 0 + p 1 + p 2 + p 3 + p 4 + p 5 + p 6 + p 7 := by
  subst hG
  have hd : ∀ x, x / 65536 = x / 256 / 256 := fun x => by omega
  have hd4 : ∀ x, x / 4294967296 = x / 256 / 256 / 256 / 256 := fun x => by omega
  rw [hd, hd4]
  rw [asm8_div p 7 (by have := hp 0; omega) (hz _ (by omega)), asm8_add]
  rw [asm8_div _ 7 (by have := hp 0; have := hp 1; simp only [Nat.zero_add]; omega) (by rw [hz _ (by omega), hz _ (by omega)])]
  rw [asm8_div _ 7 (by have := hp 1; have := hp 2; simp only [Nat.zero_add, Nat.reduceAdd]; omega) (by rw [hz _ (by omega), hz _ (by omega)]), asm8_add]
  have hs : ∀ j, p j + p (j + 1) + (p (j + 1 + 1) + p (j + 1 + 1 + 1)) ≤ 32 := fun j => by have := hp j; have := hp (j + 1); have := hp (j + 1 + 1); have := hp (j + 1 + 1 + 1); omega
  have hsz : ∀ j, 8 ≤ j → p j + p (j + 1) + (p (j + 1 + 1) + p (j + 1 + 1 + 1)) = 0 := fun j hj => by rw [hz _ (by omega), hz _ (by omega), hz _ (by omega), hz _ (by omega)]
  generalize hq : (fun j => p j + p (j + 1) + (p (j + 1 + 1) + p (j + 1 + 1 + 1))) = q
  have hq1 : ∀ j, q j ≤ 32 := fun j => by rw [← hq]; exact hs j
  have hqz : ∀ j, 8 ≤ j → q j = 0 := fun j hj => by rw [← hq]; exact hsz j hj
  rw [asm8_div q 7 (by have := hq1 0; omega) (hqz _ (by omega))]
  rw [asm8_div (fun j => q (j + 1)) 7 (by have := hq1 (0 + 1); omega) (hqz _ (by omega))]
  rw [asm8_div (fun j => q (j + 1 + 1)) 7 (by have := hq1 (0 + 1 + 1); omega) (hqz _ (by omega))]
  rw [asm8_div (fun j => q (j + 1 + 1 + 1)) 7 (by have := hq1 (0 + 1 + 1 + 1); omega) (hqz _ (by omega)), asm8_add, asm8]
  have h0 := hq1 0
  have h4 := hq1 (0 + 1 + 1 + 1 + 1)
  have e0 : q 0 = p 0 + p 1 + (p 2 + p 3) := by rw [← hq]
  have e4 : q (0 + 1 + 1 + 1 + 1) = p 4 + p 5 + (p 6 + p 7) := by rw [← hq]
  generalize asm8 _ 7 = Z
  omega

/-- The ones of a word, as the program reckons them. -/
theorem pop_steps (x : Nat) (hx : x < 2 ^ 64) : ∃ C F G : Nat, (x / 2 &&& 6148914691236517205) + (x &&& 6148914691236517205) = C ∧ C < 18446744073709551616 ∧ (C / 4 &&& 3689348814741910323) + (C &&& 3689348814741910323) = F ∧ F < 9223372036854775808 ∧ (F / 16 + F) &&& 1085102592571150095 = G ∧ G < 1152921504606846976 ∧
    (((G + G / 256) + (G + G / 256) / 65536) + ((G + G / 256) + (G + G / 256) / 65536) / 4294967296) % 128 = cntB (fun i => x.testBit i) 64 := by
  let b : Nat → Nat := fun j => x / 256 ^ j % 256
  have hb : ∀ j, b j < 256 := fun j => Nat.mod_lt _ (by omega)
  have hxb : asm8 b 8 = x := asm8_bytes 8 x (by simpa using hx)
  have h1 := st1 8 b hb
  have h2 := st2 8 (fun j => g1 (b j)) (fun j => g1_lt _ (hb j))
  have h3 := st3 8 (fun j => g2 (g1 (b j))) (fun j => ⟨(e3 _ (hb j)).1, (e3 _ (hb j)).2.1⟩)
  rw [hxb] at h1
  have hC := asm8_lt (fun j => g1 (b j)) (fun j => g1_lt _ (hb j)) 8
  have hF := asm8_bound (fun j => g2 (g1 (b j))) 68 8 (fun j => by have := e3 _ (hb j); omega)
  have hp : ∀ j, g2 (g1 (b j)) % 16 + g2 (g1 (b j)) / 16 = pc8 (b j) := fun j => (e3 _ (hb j)).2.2
  rw [show (fun j => g2 (g1 (b j)) % 16 + g2 (g1 (b j)) / 16) = fun j => pc8 (b j) from funext hp] at h3
  have hpl : ∀ j, pc8 (b j) ≤ 8 := fun j => cntB_le _ _
  have hG := asm8_bound (fun j => pc8 (b j)) 8 8 hpl
  have hpz : ∀ j, 8 ≤ j → pc8 (b j) = 0 := fun j hj => by
    have : b j = 0 := by
      show x / 256 ^ j % 256 = 0
      have h256 : x < 256 ^ j := Nat.lt_of_lt_of_le (by simpa using hx) (Nat.pow_le_pow_right (n := 256) (by omega) hj)
      rw [Nat.div_eq_of_lt h256]
    rw [this]; decide
  have ht := pop_tail (fun j => pc8 (b j)) hpl hpz _ rfl
  have hpc : ∀ j, pc8 (b j) = cntB (fun i => x.testBit (8 * j + i)) 8 := fun j => cntB_congr (fun i hi => byte_testBit x j i hi)
  have htot : cntB (fun i => x.testBit i) 64 = pc8 (b 0) + pc8 (b 1) + pc8 (b 2) + pc8 (b 3) + pc8 (b 4) + pc8 (b 5) + pc8 (b 6) + pc8 (b 7) := by
    simp only [hpc]
    rw [show (64 : Nat) = 8 + 8 + 8 + 8 + 8 + 8 + 8 + 8 from rfl]
    simp only [cntB_add]
    simp only [Nat.reduceMul, Nat.reduceAdd, Nat.zero_add]
  have m1 : mk8 1 8 = 72340172838076673 := by decide
  rw [m1] at hF hG
  refine ⟨_, _, _, h1, by simpa using hC, h2, Nat.lt_of_le_of_lt hF (by decide), h3, Nat.lt_of_le_of_lt hG (by decide), ?_⟩
  rw [ht, htot]
end Go.Proofs.YtkebgnpifmcmaabGreat

namespace Go.Proofs.YtkebgnpifmcmaabGreat
open Go.RowKit

/-- A block, whole. -/
def Blk (w : World) (g : Nat) (T : TypeId) (cs : Array Value) : Prop := w.heap[g]? = some (.cells cs T (0, 0))
theorem Blk.lt {w : World} {g : Nat} {T : TypeId} {cs : Array Value} (h : Blk w g T cs) : g < w.heap.size := (Array.getElem?_eq_some_iff.1 h).1
theorem Blk.cell {w : World} {g : Nat} {T : TypeId} {cs : Array Value} (h : Blk w g T cs) (j : Nat) : w.cell? ⟨g, j, none⟩ = cs[j]? := cell_of_row w g j _ _ _ h
theorem Blk.free {w : World} {g : Nat} {T : TypeId} {cs : Array Value} (h : Blk w g T cs) (j : Nat) : w.frozen? ⟨g, j, none⟩ = false := frozen_of_row w g j _ _ h
theorem Blk.block {w w' : World} {g : Nat} {T : TypeId} {cs : Array Value} (h : Blk w g T cs) (hb : w'.heap[g]? = w.heap[g]?) : Blk w' g T cs := hb.trans h
theorem Blk.below {w w' : World} {B g : Nat} {T : TypeId} {cs : Array Value} (h : Blk w g T cs) (hb : Below B w w') (hlt : g < B) : Blk w' g T cs := h.block (hb.block g hlt)
theorem Blk.alloc {w : World} {g : Nat} {T : TypeId} {cs : Array Value} (h : Blk w g T cs) (o : Obj) : Blk (w.alloc o) g T cs := h.block (Below.heap_alloc w o g h.lt)
theorem Blk.new (w : World) (T : TypeId) (cs : Array Value) : Blk (w.alloc (.cells cs T)) w.heap.size T cs := heap_alloc_new w _
theorem Blk.grown {w w' : World} {row : Option Nat} {g : Nat} {T : TypeId} {cs : Array Value} (h : Blk w g T cs) (hg : w.grownBy w' row) (hne : some g ≠ row) : Blk w' g T cs := h.block (hg.block g h.lt hne)
theorem Blk.set {w : World} {g : Nat} {T : TypeId} {cs : Array Value} (h : Blk w g T cs) (j : Nat) (u : Value) : Blk (w.setCell ⟨g, j, none⟩ u) g T (cs.setIfInBounds j u) := heap_setCell_same w g j cs T u h
theorem Blk.setOther {w : World} {g : Nat} {T : TypeId} {cs : Array Value} (h : Blk w g T cs) {a : Addr} (ha : g ≠ a.block) (u : Value) : Blk (w.setCell a u) g T cs := h.block (Below.heap_setCell w a u g ha)
theorem Blk.setRow {w : World} {g : Nat} {T : TypeId} {cs : Array Value} (h : Blk w g T cs) (cs' : Array Value) : Blk (w.setRow g cs') g T cs' := setRow_heap w g _ _ _ _ h
theorem Blk.setRowOther {w : World} {g g' : Nat} {T : TypeId} {cs : Array Value} (h : Blk w g T cs) (hne : g ≠ g') (cs' : Array Value) : Blk (w.setRow g' cs') g T cs := h.block (setRow_other w g' g cs' hne)
theorem Row.setRowOther {w : World} {g g' : Nat} {T : TypeId} {n : Nat} {F : Nat → Value} (h : Row w g T n F) (hne : g ≠ g') (cs' : Array Value) : Row (w.setRow g' cs') g T n F := h.block (setRow_other w g' g cs' hne)

theorem packedSize_any (n : Nat) (w : World) (hn : n ≤ 100000) : Calls Tryz.prog 144 #[.int .i64 (n : Int)] w fun e w' => e = .returned (.int .i64 (((n + 7) / 8 : Nat) : Int)) ∧ w' = w := by
  have h : Hid ((((n + 7) / 8 : Nat) : Int) = ((n : Int) + 8 - 1) / 8) := by show (((n + 7) / 8 : Nat) : Int) = _; omega
  go_enter Tryz.func144, Tryz.ntmps144
  go_wp2
  go_ret
  exact ⟨by rw [h.out]; rfl, rfl⟩

theorem infoTr : (Tryz.prog.info? 118).map (·.size) = some 2 := by kernel_rfl

set_option maxRecDepth 10000 in
theorem transformed_any (s : ByteArray) (w : World) (hn : s.size ≤ 2000) : Calls Tryz.prog 81 #[.string s] w fun e w' => ∃ f, IsSA (tx s) f ∧ e = .returned (.agg #[.string (bs (pre (tx s) f (s.size + 1))), .int .i64 ((endOf f (s.size + 1) : Nat) : Int)]) ∧ Below w.heap.size w w' := by
  have hk0 := Blk.new w 118 #[.string { data := #[] }, .int .i64 0]
  go_enter Tryz.func81, Tryz.ntmps81
  go_wp2_with fail
  refine (of_any s _ hn).mono ?_
  rintro e w1 ⟨f, hf, rfl, hb⟩
  have hk1 := hk0.below hb (by simp)
  have hb1 : Below w.heap.size w w1 := ((Below.refl _ _).alloc (Nat.le_refl _) _).trans (hb.mono (by simp))
  clear hk0 hb
  have hc0 : w1.cell? ⟨w.heap.size, 0, none⟩ = some (.string { data := #[] }) := hk1.cell 0
  have hc1 : w1.cell? ⟨w.heap.size, 1, none⟩ = some (.int .i64 0) := hk1.cell 1
  have hf0 := hk1.free 0
  have hf1 := hk1.free 1
  go_wp2
  exact bodyPost_ret (v := .agg #[.string (bs (pre (tx s) f (s.size + 1))), .int .i64 ((endOf f (s.size + 1) : Nat) : Int)]) (results_cell_row (P := Tryz.prog) rfl _ _ w.heap.size 118 _ (0, 0) _ rfl ((hk1.set 0 _).set 1 _) Tryz.underlying118 rfl infoTr) rfl ⟨f, hf, rfl, (hb1.setCell (Nat.le_refl _) _).setCell (Nat.le_refl _) _⟩

theorem bit_val (x r : Nat) (hx : x < 2 ^ 64) : (bits BinOp.and IntKind.u64 ((x : Int) / 2 ^ r) 1 == 1) = x.testBit r := by
  have h1 : ((x : Int) / 2 ^ r) = ((x / 2 ^ r : Nat) : Int) := by simp
  have h2 : x / 2 ^ r < 18446744073709551616 := Nat.lt_of_le_of_lt (Nat.div_le_self _ _) (by simpa using hx)
  rw [h1, show (1 : Int) = ((1 : Nat) : Int) from rfl, u64_and_nat _ _ h2 (by omega), Nat.testBit, Nat.shiftRight_eq_div_pow, Nat.and_comm]
  have h3 : 1 &&& (x / 2 ^ r) = (x / 2 ^ r) % 2 := by rw [Nat.and_comm, show (1 : Nat) = 2 ^ 1 - 1 from rfl, Nat.and_two_pow_sub_one_eq_mod]
  rw [h3]
  rcases Nat.mod_two_eq_zero_or_one (x / 2 ^ r) with h | h <;> rw [h] <;> rfl

theorem bit_any (sz : Int) (gw cw nw i : Nat) (x : Value) (W : Nat → Nat) (w : World) (hi : i < 64 * nw) (hn : i ≤ 100000) (hW : W (i / 64) < 2 ^ 64) (hr : Row w gw 92 nw (fun k => .int .u64 (W k : Int))) : Calls Tryz.prog 131 #[.agg #[.int .i64 sz, .slice (some ⟨gw, 0, none⟩) nw cw, x], .int .i64 (i : Int)] w fun e w' => e = .returned (.bool ((W (i / 64)).testBit (i % 64))) ∧ Below w.heap.size w w' := by
  have hc : ∀ o, (w.alloc o).cell? ⟨gw, i / 64, none⟩ = some (.int .u64 (W (i / 64) : Int)) := fun o => (hr.alloc o).cell (by omega)
  have hv : Hid _ := bit_val (W (i / 64)) (i % 64) hW
  go_enter Tryz.func131, Tryz.ntmps131
  go_wp2
  go_ret
  exact ⟨by rw [← hv.out]; rfl, (Below.refl _ _).alloc (Nat.le_refl _) _⟩

set_option maxHeartbeats 1000000 in
theorem onesCount_any (x : Nat) (w : World) (hx : x < 2 ^ 64) : Calls Tryz.prog 152 #[.int .u64 (x : Int)] w fun e w' => e = .returned (.int .i64 ((cntB (fun i => x.testBit i) 64 : Nat) : Int)) ∧ w' = w := by
  obtain ⟨C, F, G, hC, hCl, hF, hFl, hG, hGl, hR⟩ := pop_steps x hx
  have HR : Hid _ := hR
  clear hR
  have hx' : x < 18446744073709551616 := by simpa using hx
  have q0 : Hid (bits BinOp.and IntKind.u64 ((x : Int) / 2) 6148914691236517205 + bits BinOp.and IntKind.u64 (x : Int) 6148914691236517205 = (C : Int)) := by
    show bits BinOp.and IntKind.u64 ((x : Int) / 2) 6148914691236517205 + _ = _
    rw [show (x : Int) / 2 = ((x / 2 : Nat) : Int) from by omega, show (6148914691236517205 : Int) = ((6148914691236517205 : Nat) : Int) from rfl, u64_and_nat _ _ (by omega) (by omega), u64_and_nat _ _ hx' (by omega), ← hC]; omega
  have q1 : Hid (IntKind.u64.wrap (C : Int) = (C : Int)) := by show IntKind.u64.wrap (C : Int) = _; simp [IntKind.wrap, IntKind.bits, IntKind.signed]; omega
  have q2 : Hid (bits BinOp.and IntKind.u64 ((C : Int) / 4) 3689348814741910323 + bits BinOp.and IntKind.u64 (C : Int) 3689348814741910323 = (F : Int)) := by
    show bits BinOp.and IntKind.u64 ((C : Int) / 4) 3689348814741910323 + _ = _
    rw [show (C : Int) / 4 = ((C / 4 : Nat) : Int) from by omega, show (3689348814741910323 : Int) = ((3689348814741910323 : Nat) : Int) from rfl, u64_and_nat _ _ (by omega) (by omega), u64_and_nat _ _ hCl (by omega), ← hF]; omega
  have q3 : Hid (IntKind.u64.wrap (F : Int) = (F : Int)) := by show IntKind.u64.wrap (F : Int) = _; simp [IntKind.wrap, IntKind.bits, IntKind.signed]; omega
  have q4 : Hid (IntKind.u64.wrap ((F : Int) / 16 + (F : Int)) = ((F / 16 + F : Nat) : Int)) := by show IntKind.u64.wrap ((F : Int) / 16 + (F : Int)) = _; simp [IntKind.wrap, IntKind.bits, IntKind.signed]; omega
  have q5 : Hid (bits BinOp.and IntKind.u64 ((F / 16 + F : Nat) : Int) 1085102592571150095 = (G : Int)) := by
    show bits BinOp.and IntKind.u64 ((F / 16 + F : Nat) : Int) 1085102592571150095 = _
    rw [show (1085102592571150095 : Int) = ((1085102592571150095 : Nat) : Int) from rfl, u64_and_nat _ _ (by omega) (by omega), hG]
  have q6 : Hid (IntKind.u64.wrap ((G : Int) + (G : Int) / 256) = ((G + G / 256 : Nat) : Int)) := by show IntKind.u64.wrap ((G : Int) + (G : Int) / 256) = _; simp [IntKind.wrap, IntKind.bits, IntKind.signed]; omega
  have hHl : G + G / 256 < 2305843009213693952 := by omega
  generalize G + G / 256 = Hh at *
  have q7 : Hid (IntKind.u64.wrap ((Hh : Int) + (Hh : Int) / 65536) = ((Hh + Hh / 65536 : Nat) : Int)) := by show IntKind.u64.wrap ((Hh : Int) + (Hh : Int) / 65536) = _; simp [IntKind.wrap, IntKind.bits, IntKind.signed]; omega
  have hIl : Hh + Hh / 65536 < 4611686018427387904 := by omega
  generalize Hh + Hh / 65536 = Ii at *
  have q8 : Hid (IntKind.u64.wrap ((Ii : Int) + (Ii : Int) / 4294967296) = ((Ii + Ii / 4294967296 : Nat) : Int)) := by show IntKind.u64.wrap ((Ii : Int) + (Ii : Int) / 4294967296) = _; simp [IntKind.wrap, IntKind.bits, IntKind.signed]; omega
  have hJl : Ii + Ii / 4294967296 < 9223372036854775808 := by omega
  generalize Ii + Ii / 4294967296 = Jj at *
  clear hC hF hG hHl hIl
  go_enter Tryz.func152, Tryz.ntmps152
  go_wp2
  go_ret
  rw [q0.out, q1.out, q2.out, q3.out, q4.out, q5.out, q6.out, q7.out, q8.out]
  refine ⟨?_, rfl⟩
  show Ending.returned (.int .i64 (bits BinOp.and IntKind.i64 (wrap64 (Jj : Int)) 127)) = _
  have e1 : wrap64 (Jj : Int) = (Jj : Int) := by unfold wrap64; omega
  have e2 : bits BinOp.and IntKind.i64 (Jj : Int) 127 = ((Jj % 128 : Nat) : Int) := by
    rw [show (127 : Int) = ((127 : Nat) : Int) from rfl, (bits_nat .i64 63 (by decide) (fun n h1 h2 => by simp [IntKind.wrap, IntKind.bits, IntKind.signed]; omega) Jj 127 hJl (by omega)).1]
    rw [show (127 : Nat) = 2 ^ 7 - 1 from rfl, Nat.and_two_pow_sub_one_eq_mod]
  rw [e1, e2, HR.out]
end Go.Proofs.YtkebgnpifmcmaabGreat

namespace Go.Proofs.YtkebgnpifmcmaabGreat
open Go.RowKit

def IU (f : Nat → Nat) : Nat → Value := fun j => .int .u64 (f j : Int)
theorem IU_at (f : Nat → Nat) (j : Nat) : IU f j = .int .u64 (f j : Int) := rfl
theorem Row.setU {w : World} {g : Nat} {e : TypeId} {n : Nat} {f : Nat → Nat} (h : Row w g e n (IU f)) (j x : Nat) : Row (w.setCell ⟨g, j, none⟩ (.int .u64 (x : Int))) g e n (IU (upd f j x)) := by
  have : updV (IU f) j (.int .u64 (x : Int)) = IU (upd f j x) := by funext i; simp only [updV, IU, upd]; split <;> rfl
  rw [← this]; exact h.set j _
theorem infoBR : (Tryz.prog.info? 70).map (·.size) = some 3 := by kernel_rfl
theorem Tryz.infoU64 : (Tryz.prog.info? 92).map (fun i => (i.zero, i.size, i.bytes)) = some (some (.int .u64 0), 1, 8) := by kernel_rfl

theorem Row.ofMade {w : World} {g : Nat} {e : TypeId} {m : Nat} {z : Value} (h : w.heap[g]? = some (.cells (madeCells #[z] m) e (0, 0))) : Row w g e m (fun _ => z) := by
  refine ⟨_, h, by simp [madeCells], fun j hj => ?_⟩
  simp [madeCells, hj, Nat.mod_one]
theorem alloc3 (W : World) (X Y Z : Obj) {s : Nat} (hs : W.heap.size = s) : (((W.alloc X).alloc Y).alloc Z).drew.heap[s]? = some X ∧ (((W.alloc X).alloc Y).alloc Z).drew.heap[s + 1]? = some Y ∧ (((W.alloc X).alloc Y).alloc Z).drew.heap[s + 1 + 1]? = some Z ∧ Below s W (((W.alloc X).alloc Y).alloc Z).drew := by
  subst hs
  refine ⟨?_, ?_, ?_, ?_⟩
  · rw [show ∀ V : World, V.drew.heap = V.heap from fun _ => rfl, heap_alloc_old _ _ (h := by simp; omega), heap_alloc_old _ _ (h := by simp), heap_alloc_new]
  · have h := heap_alloc_new (W.alloc X) Y
    rw [show (W.alloc X).heap.size = W.heap.size + 1 from by simp] at h
    rw [show ∀ V : World, V.drew.heap = V.heap from fun _ => rfl, heap_alloc_old _ _ (h := by simp), h]
  · have h := heap_alloc_new ((W.alloc X).alloc Y) Z
    rw [show ((W.alloc X).alloc Y).heap.size = W.heap.size + 1 + 1 from by simp] at h
    exact h
  · exact ((((Below.refl _ _).alloc (Nat.le_refl _) _).alloc (by simp) _).alloc (by simp; omega) _).drew

/-- The first i of them alone. -/
def ct (f : Nat → Bool) (i : Nat) (j : Nat) : Bool := decide (j < i) && f j
theorem ct_lt {f : Nat → Bool} {i j : Nat} (h : j < i) : ct f i j = f j := by simp [ct, h]
theorem ct_ge {f : Nat → Bool} {i j : Nat} (h : ¬ j < i) : ct f i j = false := by simp [ct, h]
theorem ct_next {f : Nat → Bool} {i j : Nat} (h : j ≠ i) : ct f (i + 1) j = ct f i j := by
  by_cases h1 : j < i
  · rw [ct_lt h1, ct_lt (by omega)]
  · rw [ct_ge h1, ct_ge (by omega)]
/-- The bits of the words. -/
def Bits (W : Nat → Nat) (m : Nat) (F : Nat → Bool) : Prop := ∀ k, k < m → W k < 2 ^ 64 ∧ ∀ j, j < 64 → (W k).testBit j = F (64 * k + j)
theorem Bits.congr {W : Nat → Nat} {m : Nat} {F G : Nat → Bool} (h : Bits W m F) (hg : ∀ i, F i = G i) : Bits W m G := fun k hk => ⟨(h k hk).1, fun j hj => by rw [(h k hk).2 j hj, hg]⟩
theorem Bits.zero (m : Nat) (f : Nat → Bool) : Bits (fun _ => 0) m (ct f 0) := fun k _ => ⟨Nat.two_pow_pos 64, fun j _ => by rw [ct_ge (Nat.not_lt_zero _), Nat.zero_testBit]⟩
theorem Bits.step {W : Nat → Nat} {m i : Nat} {f : Nat → Bool} (h : Bits W m (ct f i)) (hf : f i = true) : Bits (upd W (i / 64) (W (i / 64) ||| 2 ^ (i % 64))) m (ct f (i + 1)) := by
  intro k hk
  have hh := h k hk
  by_cases e : k = i / 64
  · subst e
    rw [upd_at]
    refine ⟨Nat.or_lt_two_pow hh.1 (Nat.pow_lt_pow_right (by decide) (Nat.mod_lt _ (by decide))), fun j hj => ?_⟩
    rw [Nat.testBit_or, hh.2 j hj, Nat.testBit_two_pow]
    by_cases e2 : i % 64 = j
    · have : 64 * (i / 64) + j = i := by omega
      rw [this, ct_lt (Nat.lt_succ_self i), hf, decide_eq_true e2, Bool.or_true]
    · rw [decide_eq_false e2, Bool.or_false, ct_next (by omega)]
  · rw [upd_ne _ _ _ e]
    exact ⟨hh.1, fun j hj => by rw [hh.2 j hj, ct_next (by omega)]⟩
theorem Bits.skip {W : Nat → Nat} {m i : Nat} {f : Nat → Bool} (h : Bits W m (ct f i)) (hf : f i = false) : Bits W m (ct f (i + 1)) :=
  h.congr fun j => by
    by_cases e : j = i
    · subst e; rw [ct_lt (Nat.lt_succ_self j), hf, ct_ge (Nat.lt_irrefl j)]
    · rw [ct_next e]

set_option maxRecDepth 10000 in
set_option maxHeartbeats 4000000 in
theorem bitOf_any (n K : Nat) (caps : Array Value) (f : Nat → Bool) (w : World) (hn : n ≤ 2001) (hin : ∀ args w, (callFunc K args).run Tryz.prog w = .ok (.enter K args) w)
    (hcall : ∀ i, i < n → ∀ w1, Below w.heap.size w w1 → Calls Tryz.prog K (#[.int .i64 (i : Int)] ++ caps) w1 fun e w' => e = .returned (.bool (f i)) ∧ Below w1.heap.size w1 w') :
    Calls Tryz.prog 143 #[.int .i64 (n : Int), .func (.func K) #[] caps] w fun e w' => ∃ gw ga, e = .returned (.agg #[.int .i64 (n : Int), .slice (some ⟨gw, 0, none⟩) (n / 64 + 1) (n / 64 + 1), .slice (some ⟨ga, 0, none⟩) (n / 64 + 1) (n / 64 + 1)]) ∧ (∃ W, Row w' gw 92 (n / 64 + 1) (IU W) ∧ Bits W (n / 64 + 1) (ct f n)) ∧ Row w' ga 3 (n / 64 + 1) (IN fun k => cntB (ct f n) (64 * k)) ∧ w.heap.size ≤ gw ∧ w.heap.size ≤ ga ∧ Below w.heap.size w w' := by
  obtain ⟨i0, hi, hz0, hz1, hz2⟩ := info_parts Tryz.info3
  obtain ⟨i1, hj, hy0, hy1, hy2⟩ := info_parts Tryz.infoU64
  have hk0 := Blk.new w 70 #[.int .i64 0, .slice none 0 0, .slice none 0 0]
  have hb0 : Below w.heap.size w (w.alloc (.cells #[.int .i64 0, .slice none 0 0, .slice none 0 0] 70)) := (Below.refl _ _).alloc (Nat.le_refl _) _
  have hs0 : (w.alloc (.cells #[.int .i64 0, .slice none 0 0, .slice none 0 0] 70)).heap.size = w.heap.size + 1 := by simp
  go_enter Tryz.func143, Tryz.ntmps143
  go_upto_region 1 with fail
  generalize w.alloc (.cells #[.int .i64 0, .slice none 0 0, .slice none 0 0] 70) = W0 at *
  go_cut [5] from 8 to 17 (fun p wx => ∃ gw ga gs, p = .pointer (some ⟨gs, 0, none⟩) ∧ Blk wx gs 70 #[.int .i64 (n : Int), .slice (some ⟨gw, 0, none⟩) (n / 64 + 1) (n / 64 + 1), .slice (some ⟨ga, 0, none⟩) (n / 64 + 1) (n / 64 + 1)] ∧ Row wx gw 92 (n / 64 + 1) (fun _ => .int .u64 0) ∧ Row wx ga 3 (n / 64 + 1) (fun _ => .int .i64 0) ∧ w.heap.size < gw ∧ w.heap.size < ga ∧ w.heap.size < gs ∧ Blk wx w.heap.size 70 #[.int .i64 0, .slice none 0 0, .slice none 0 0] ∧ Below w.heap.size w wx)
  case first =>
    have hmA : ∀ W, (Instr.makeSlice 68 (.int .i64 (IntKind.i64.wrap (IntKind.i64.wrap ((n : Int) / 64) + 1))) (.int .i64 (IntKind.i64.wrap (IntKind.i64.wrap ((n : Int) / 64) + 1)))).run Tryz.prog W = .ok (.slice (some ⟨W.heap.size, 0, none⟩) (n / 64 + 1) (n / 64 + 1)) (W.alloc (.cells (madeCells #[.int .u64 0] (n / 64 + 1)) 92)) := by
      intro W
      have e1 : IntKind.i64.wrap (IntKind.i64.wrap ((n : Int) / 64) + 1) = ((n / 64 + 1 : Nat) : Int) := by simp only [IntKind.wrap_i64]; omega
      rw [e1, run_make W 68 92 i1 _ Tryz.underlying68 hj hy0 .i64 .i64 _ _ (by omega) (by omega) (by rw [hy2]; omega) (by omega), hy1]
      simp only [Value.cells, Int.toNat_natCast, Nat.mul_one]
    have hmB : ∀ W, (Instr.makeSlice 32 (.int .i64 (IntKind.i64.wrap (IntKind.i64.wrap ((n : Int) / 64) + 1))) (.int .i64 (IntKind.i64.wrap (IntKind.i64.wrap ((n : Int) / 64) + 1)))).run Tryz.prog W = .ok (.slice (some ⟨W.heap.size, 0, none⟩) (n / 64 + 1) (n / 64 + 1)) (W.alloc (.cells (madeCells #[.int .i64 0] (n / 64 + 1)) 3)) := by
      intro W
      have e1 : IntKind.i64.wrap (IntKind.i64.wrap ((n : Int) / 64) + 1) = ((n / 64 + 1 : Nat) : Int) := by simp only [IntKind.wrap_i64]; omega
      rw [e1, run_make W 32 3 i0 _ Tryz.underlying32 hi hz0 .i64 .i64 _ _ (by omega) (by omega) (by rw [hz2]; omega) (by omega), hz1]
      simp only [Value.cells, Int.toNat_natCast, Nat.mul_one]
    go_region
    all_goals (go_wp2_with fail)
    all_goals go_meet
    all_goals first
      | exact ⟨w.heap.size + 1, w.heap.size + 1 + 1, w.heap.size + 1 + 1 + 1, rfl, (alloc3 W0 _ _ _ hs0).2.2.1, Row.ofMade (alloc3 W0 _ _ _ hs0).1, Row.ofMade (alloc3 W0 _ _ _ hs0).2.1, by omega, by omega, by omega, hk0.below (alloc3 W0 _ _ _ hs0).2.2.2 (Nat.lt_succ_self _), hb0.trans ((alloc3 W0 _ _ _ hs0).2.2.2.mono (Nat.le_succ _))⟩
      | exact ⟨w.heap.size + 1, w.heap.size + 1 + 1 + 1, w.heap.size + 1 + 1, rfl, (alloc3 W0 _ _ _ hs0).2.1, Row.ofMade (alloc3 W0 _ _ _ hs0).1, Row.ofMade (alloc3 W0 _ _ _ hs0).2.2.1, by omega, by omega, by omega, hk0.below (alloc3 W0 _ _ _ hs0).2.2.2 (Nat.lt_succ_self _), hb0.trans ((alloc3 W0 _ _ _ hs0).2.2.2.mono (Nat.le_succ _))⟩
      | exact ⟨w.heap.size + 1 + 1, w.heap.size + 1, w.heap.size + 1 + 1 + 1, rfl, (alloc3 W0 _ _ _ hs0).2.2.1, Row.ofMade (alloc3 W0 _ _ _ hs0).2.1, Row.ofMade (alloc3 W0 _ _ _ hs0).1, by omega, by omega, by omega, hk0.below (alloc3 W0 _ _ _ hs0).2.2.2 (Nat.lt_succ_self _), hb0.trans ((alloc3 W0 _ _ _ hs0).2.2.2.mono (Nat.le_succ _))⟩
      | exact ⟨w.heap.size + 1 + 1, w.heap.size + 1 + 1 + 1, w.heap.size + 1, rfl, (alloc3 W0 _ _ _ hs0).1, Row.ofMade (alloc3 W0 _ _ _ hs0).2.1, Row.ofMade (alloc3 W0 _ _ _ hs0).2.2.1, by omega, by omega, by omega, hk0.below (alloc3 W0 _ _ _ hs0).2.2.2 (Nat.lt_succ_self _), hb0.trans ((alloc3 W0 _ _ _ hs0).2.2.2.mono (Nat.le_succ _))⟩
      | exact ⟨w.heap.size + 1 + 1 + 1, w.heap.size + 1, w.heap.size + 1 + 1, rfl, (alloc3 W0 _ _ _ hs0).2.1, Row.ofMade (alloc3 W0 _ _ _ hs0).2.2.1, Row.ofMade (alloc3 W0 _ _ _ hs0).1, by omega, by omega, by omega, hk0.below (alloc3 W0 _ _ _ hs0).2.2.2 (Nat.lt_succ_self _), hb0.trans ((alloc3 W0 _ _ _ hs0).2.2.2.mono (Nat.le_succ _))⟩
      | exact ⟨w.heap.size + 1 + 1 + 1, w.heap.size + 1 + 1, w.heap.size + 1, rfl, (alloc3 W0 _ _ _ hs0).1, Row.ofMade (alloc3 W0 _ _ _ hs0).2.2.1, Row.ofMade (alloc3 W0 _ _ _ hs0).2.1, by omega, by omega, by omega, hk0.below (alloc3 W0 _ _ _ hs0).2.2.2 (Nat.lt_succ_self _), hb0.trans ((alloc3 W0 _ _ _ hs0).2.2.2.mono (Nat.le_succ _))⟩
  case rest =>
    obtain ⟨gw, ga, gs, rfl, hbs, hrw, hra, hgw, hga, hgs, hb4, hbel⟩ := hcut
    have hgwa : gw ≠ ga := fun e => by
      subst e
      obtain ⟨c1, h1, _⟩ := hrw
      obtain ⟨c2, h2, _⟩ := hra
      rw [h1] at h2; simp at h2
    have hgws : gw ≠ gs := fun e => by
      subst e
      obtain ⟨c1, h1, _⟩ := hrw
      unfold Blk at hbs
      rw [h1] at hbs; simp at hbs
    have hgas : ga ≠ gs := fun e => by
      subst e
      obtain ⟨c1, h1, _⟩ := hra
      unfold Blk at hbs
      rw [h1] at hbs; simp at hbs
    clear hk0 hb0 hs0
    go_wp2_with fail
    go_loopw [19, 6] (fun iv _ wr => ∃ i : Nat, i ≤ n ∧ iv = .int .i64 (i : Int) ∧ (∃ W, Row wr gw 92 (n / 64 + 1) (IU W) ∧ Hid (Bits W (n / 64 + 1) (ct f i))) ∧ Blk wr gs 70 #[.int .i64 (n : Int), .slice (some ⟨gw, 0, none⟩) (n / 64 + 1) (n / 64 + 1), .slice (some ⟨ga, 0, none⟩) (n / 64 + 1) (n / 64 + 1)] ∧ Row wr ga 3 (n / 64 + 1) (fun _ => .int .i64 0) ∧ Blk wr w.heap.size 70 #[.int .i64 0, .slice none 0 0, .slice none 0 0] ∧ Below w.heap.size w wr) (fun iv _ _ => n - (intOf iv).toNat)
    case atStart => exact ⟨0, Nat.zero_le _, rfl, ⟨fun _ => 0, hrw, Bits.zero _ _⟩, hbs, hra, hb4, hbel⟩
    case round =>
      clear hrw hbs hra hb4 hbel
      obtain ⟨i, hi1, rfl, ⟨W, hrw, HB⟩, hbs, hra, hb4, hbel⟩ := hrel
      by_cases hlt : i < n
      · go_wp2_with fail
        refine (hcall i hlt wr hbel).mono ?_
        rintro e w2 ⟨rfl, hb2⟩
        have hrw2 := hrw.below hb2 hrw.lt
        have hbs2 := hbs.below hb2 hbs.lt
        have hra2 := hra.below hb2 hra.lt
        have hb42 := hb4.below hb2 hb4.lt
        have hbel2 := hbel.trans (hb2.mono hbel.size)
        clear hrw hbs hra hb4 hbel hb2
        by_cases hf : f i = true
        · have HS : Hid _ := HB.out.step hf
          have hWl := (HB.out (i / 64) (by omega)).1
          have hc1 : w2.cell? ⟨gs, 1, none⟩ = some (.slice (some ⟨gw, 0, none⟩) (n / 64 + 1) (n / 64 + 1)) := hbs2.cell 1
          have hc2 := hrw2.cell (show i / 64 < n / 64 + 1 by omega)
          rw [IU_at] at hc2
          have hfz := hrw2.free (i / 64)
          rw [hf]
          have HV : Hid (bits BinOp.or IntKind.u64 (W (i / 64) : Int) (IntKind.u64.wrap (2 ^ (i % 64))) = ((W (i / 64) ||| 2 ^ (i % 64) : Nat) : Int)) := by
            show bits BinOp.or IntKind.u64 (W (i / 64) : Int) (IntKind.u64.wrap (2 ^ (i % 64))) = _
            have hp : 2 ^ (i % 64) < 2 ^ 64 := Nat.pow_lt_pow_right (by decide) (Nat.mod_lt _ (by decide))
            have e1 : IntKind.u64.wrap (2 ^ (i % 64)) = ((2 ^ (i % 64) : Nat) : Int) := by
              have e2 : (2 : Int) ^ (i % 64) = ((2 ^ (i % 64) : Nat) : Int) := by simp
              rw [e2]
              generalize 2 ^ (i % 64) = P at *
              simp [IntKind.wrap, IntKind.bits, IntKind.signed]; omega
            rw [e1, u64_or_nat _ _ (by simpa using hWl) (by simpa using hp)]
          go_wp2_with fail
          go_region
          all_goals go_wp2
          all_goals go_roundw
          case rel =>
            rw [HV.out]
            exact ⟨i + 1, by omega, by go_num, ⟨_, (hrw2.setU (i / 64) (W (i / 64) ||| 2 ^ (i % 64))).drew, HS⟩, (hbs2.setOther (by show gs ≠ gw; omega) _), (hra2.setOther (by show ga ≠ gw; omega) _).drew, (hb42.setOther (by show w.heap.size ≠ gw; omega) _), (hbel2.setCell (by show w.heap.size ≤ gw; omega) _).drew⟩
          case measure => simp [intOf]; omega
        · have hf' : f i = false := by simpa using hf
          have HS : Hid _ := HB.out.skip hf'
          rw [hf']
          go_wp2
          go_roundw
          case rel => exact ⟨i + 1, by omega, by go_num, ⟨_, hrw2, HS⟩, hbs2, hra2, hb42, hbel2⟩
          case measure => simp [intOf]; omega
      · have hin : i = n := by omega
        subst hin
        go_wp2_with fail
        go_loopw [7] (fun kv wr => ∃ k : Nat, k ≤ i / 64 ∧ kv = .int .i64 ((k : Int) + 1) ∧ Row wr gw 92 (i / 64 + 1) (IU W) ∧ Blk wr gs 70 #[.int .i64 (i : Int), .slice (some ⟨gw, 0, none⟩) (i / 64 + 1) (i / 64 + 1), .slice (some ⟨ga, 0, none⟩) (i / 64 + 1) (i / 64 + 1)] ∧ (∃ A, Row wr ga 3 (i / 64 + 1) (IN A) ∧ Hid (∀ j, j < k + 1 → A j = cntB (ct f i) (64 * j))) ∧ Blk wr w.heap.size 70 #[.int .i64 0, .slice none 0 0, .slice none 0 0] ∧ Below w.heap.size w wr) (fun kv _ => i / 64 + 1 - (intOf kv).toNat)
        case atStart => exact ⟨0, by omega, by go_num, hrw, hbs, ⟨fun _ => 0, hra, fun j hj => by rw [show j = 0 from by omega]; rfl⟩, hb4, hbel⟩
        case round =>
          clear hrw hbs hra hb4 hbel
          obtain ⟨k, hk2, rfl, hrw, hbs, ⟨A, hra, HA⟩, hb4, hbel⟩ := hrel
          have hc1 : wr.cell? ⟨gs, 1, none⟩ = some (.slice (some ⟨gw, 0, none⟩) (i / 64 + 1) (i / 64 + 1)) := hbs.cell 1
          have hc2 : wr.cell? ⟨gs, 2, none⟩ = some (.slice (some ⟨ga, 0, none⟩) (i / 64 + 1) (i / 64 + 1)) := hbs.cell 2
          by_cases hlt2 : k < i / 64
          · have hc3 := hrw.cell (show k < i / 64 + 1 by omega)
            rw [IU_at] at hc3
            have hc4 := hra.cell (show k < i / 64 + 1 by omega)
            rw [IN_at] at hc4
            have hc5 := hra.cell (show k + 1 < i / 64 + 1 by omega)
            have hfz := hra.free (k + 1)
            have hWl := (HB.out k (by omega)).1
            have HN : Hid (A k + cntB (fun b => (W k).testBit b) 64 = cntB (ct f i) (64 * (k + 1))) := by
              show A k + cntB (fun b => (W k).testBit b) 64 = _
              rw [HA.out _ (by omega), show 64 * (k + 1) = 64 * k + 64 from by omega, cntB_add, cntB_congr (fun b hb => (HB.out k (by omega)).2 b hb)]
            have hle := cntB_le (fun b => (W k).testBit b) 64
            have hle2 : A k ≤ 3000 := by rw [HA.out _ (by omega)]; have := cntB_le (ct f i) (64 * k); omega
            generalize hC : cntB (fun b => (W k).testBit b) 64 = C at *
            have HC : Hid (cntB (fun b => (W k).testBit b) 64 = C) := hC
            clear hC
            have hx1 : ∀ V, (wr.setCell ⟨ga, k + 1, none⟩ V).cell? ⟨gw, k, none⟩ = some (.int .u64 (W k : Int)) := fun V => by rw [World.cell?_setCell_other _ _ _ _ (by simp)]; exact hc3
            have hx2 : ∀ V, (wr.setCell ⟨ga, k + 1, none⟩ V).cell? ⟨ga, k, none⟩ = some (.int .i64 (A k : Int)) := fun V => by rw [World.cell?_setCell_other _ _ _ _ (by simp)]; exact hc4
            have hq1 : (0 : Int) ≤ (k : Int) := by omega
            have hq2 : (k : Int) < (i : Int) / 64 + 1 := by omega
            have hq3 : (k : Int) < (i : Int) / 64 := by omega
            have hq4 : (0 : Int) ≤ (k : Int) + 1 := by omega
            have hq5 : IntKind.i64.wrap ((A k : Int) + (C : Int)) = (A k : Int) + (C : Int) := by rw [IntKind.wrap_i64]; omega
            have hw1 : IntKind.i64.wrap ((k : Int) + 1 - 1) = (k : Int) := by rw [IntKind.wrap_i64]; omega
            have hw2 : IntKind.i64.wrap (k : Int) = (k : Int) := by rw [IntKind.wrap_i64]; omega
            go_wp2_with fail
            go_region_held3 (fun w' => w'.cell? ⟨gs, 1, none⟩ = some (.slice (some ⟨gw, 0, none⟩) (i / 64 + 1) (i / 64 + 1)) ∧ w'.cell? ⟨gs, 2, none⟩ = some (.slice (some ⟨ga, 0, none⟩) (i / 64 + 1) (i / 64 + 1)) ∧ w'.cell? ⟨gw, k, none⟩ = some (.int .u64 (W k : Int)) ∧ w'.cell? ⟨ga, k, none⟩ = some (.int .i64 (A k : Int))) (first | go_keep | (simp [*, World.cell?_setCell_other])) (first | (go_at_call 152; refine (onesCount_any _ _ hWl).mono ?_; rintro e w3 ⟨rfl, rfl⟩; rw [HC.out]))
            all_goals go_wp2
            all_goals go_roundw
            case rel =>
              refine ⟨k + 1, by omega, by go_num, hrw.setOther (by show gw ≠ ga; omega) _, hbs.setOther (by show gs ≠ ga; omega) _, ⟨_, (hra.setN (k + 1) (A k + C)).drew, ?_⟩, hb4.setOther (by show w.heap.size ≠ ga; omega) _, (hbel.setCell (by show w.heap.size ≤ ga; omega) _).drew⟩
              exact upd_next HA.out HN.out
            case measure => simp [intOf]; omega
          · have hki : k = i / 64 := by omega
            subst hki
            have hd0 : wr.cell? ⟨gs, 0, none⟩ = some (.int .i64 (i : Int)) := hbs.cell 0
            have hf0 : wr.cell? ⟨w.heap.size, 0, none⟩ = some (.int .i64 0) := hb4.cell 0
            have hf1 : wr.cell? ⟨w.heap.size, 1, none⟩ = some (.slice none 0 0) := hb4.cell 1
            have hf2 : wr.cell? ⟨w.heap.size, 2, none⟩ = some (.slice none 0 0) := hb4.cell 2
            have hz0 := hb4.free 0
            have hz1 := hb4.free 1
            have hz2 := hb4.free 2
            go_wp2
            exact bodyPost_ret (v := .agg #[.int .i64 (i : Int), .slice (some ⟨gw, 0, none⟩) (i / 64 + 1) (i / 64 + 1), .slice (some ⟨ga, 0, none⟩) (i / 64 + 1) (i / 64 + 1)]) (results_cell_row (P := Tryz.prog) rfl _ _ w.heap.size 70 _ (0, 0) _ rfl (((hb4.set 0 _).set 1 _).set 2 _) Tryz.underlying70 rfl infoBR) rfl
              ⟨gw, ga, rfl, ⟨W, ((hrw.setOther (by show gw ≠ w.heap.size; omega) _).setOther (by show gw ≠ w.heap.size; omega) _).setOther (by show gw ≠ w.heap.size; omega) _, HB.out⟩,
                ((((hra.setOther (by show ga ≠ w.heap.size; omega) _).setOther (by show ga ≠ w.heap.size; omega) _).setOther (by show ga ≠ w.heap.size; omega) _)).congr (fun j hj => by simp only [IN, HA.out j hj]), by omega, by omega, ((hbel.setCell (Nat.le_refl _) _).setCell (Nat.le_refl _) _).setCell (Nat.le_refl _) _⟩
end Go.Proofs.YtkebgnpifmcmaabGreat

namespace Go.Proofs.YtkebgnpifmcmaabGreat
open Go.RowKit

/-- A row of bits, as three values. -/
def BR (w : World) (a b c : Value) (n : Nat) (f : Nat → Bool) : Prop :=
  ∃ gw ga W, a = .int .i64 (n : Int) ∧ b = .slice (some ⟨gw, 0, none⟩) (n / 64 + 1) (n / 64 + 1) ∧ c = .slice (some ⟨ga, 0, none⟩) (n / 64 + 1) (n / 64 + 1) ∧
    Row w gw 92 (n / 64 + 1) (IU W) ∧ Bits W (n / 64 + 1) (ct f n) ∧ Row w ga 3 (n / 64 + 1) (IN fun k => cntB (ct f n) (64 * k))
theorem BR.below {w w' : World} {a b c : Value} {n : Nat} {f : Nat → Bool} (h : BR w a b c n f) (hb : Below w.heap.size w w') : BR w' a b c n f := by
  obtain ⟨gw, ga, W, h1, h2, h3, h4, h5, h6⟩ := h
  exact ⟨gw, ga, W, h1, h2, h3, h4.below hb h4.lt, h5, h6.below hb h6.lt⟩

theorem cnt_ct (f : Nat → Bool) (n m : Nat) (h : m ≤ n) : cntB (ct f n) m = cntB f m := cntB_congr (fun i hi => ct_lt (by omega))

theorem enterUnpack (args : Array Value) (w : World) : (callFunc 157 args).run Tryz.prog w = .ok (.enter 157 args) w := Go.MuLone.run_callFunc_enter (P := Tryz.prog) Tryz.func157 (by kernel_rfl) rfl args w

theorem u8bit (x : UInt8) (r : Nat) : (bits BinOp.and IntKind.u8 ((x.toNat : Int) / 2 ^ r) 1 == 1) = x.toNat.testBit r := by
  have h1 : ((x.toNat : Int) / 2 ^ r) = ((x.toNat / 2 ^ r : Nat) : Int) := by simp
  have hx := x.toNat_lt
  have h2 : x.toNat / 2 ^ r < 256 := Nat.lt_of_le_of_lt (Nat.div_le_self _ _) (by simpa using hx)
  rw [h1, show (1 : Int) = ((1 : Nat) : Int) from rfl, u8_and_nat _ _ h2 (by omega), Nat.testBit, Nat.shiftRight_eq_div_pow, Nat.and_comm]
  have h3 : 1 &&& (x.toNat / 2 ^ r) = (x.toNat / 2 ^ r) % 2 := by rw [Nat.and_comm, show (1 : Nat) = 2 ^ 1 - 1 from rfl, Nat.and_two_pow_sub_one_eq_mod]
  rw [h3]
  rcases Nat.mod_two_eq_zero_or_one (x.toNat / 2 ^ r) with h | h <;> rw [h] <;> rfl

theorem unpack1_any (s : ByteArray) (i g : Nat) (w : World) (hi : i / 8 < s.size) (hn : i ≤ 100000) (hg : Blk w g 9 #[.string s]) :
    Calls Tryz.prog 157 #[.int .i64 (i : Int), .pointer (some ⟨g, 0, none⟩)] w fun e w' => e = .returned (.bool ((s[i / 8]).toNat.testBit (i % 8))) ∧ w' = w := by
  have hc : w.cell? ⟨g, 0, none⟩ = some (.string s) := hg.cell 0
  have hv : Hid _ := u8bit s[i / 8] (i % 8)
  go_enter Tryz.func157, Tryz.ntmps157
  go_wp2
  go_ret
  exact ⟨by rw [← hv.out]; rfl, rfl⟩

def strBit (s : ByteArray) (i : Nat) : Bool := if h : i / 8 < s.size then (s[i / 8]).toNat.testBit (i % 8) else false
theorem strBit_lt (s : ByteArray) (i : Nat) (h : i / 8 < s.size) : strBit s i = (s[i / 8]).toNat.testBit (i % 8) := by simp [strBit, h]

set_option maxRecDepth 10000 in
theorem unpack_any (s : ByteArray) (n : Nat) (w : World) (hn : n ≤ 2001) (hs : (n + 7) / 8 ≤ s.size) :
    Calls Tryz.prog 145 #[.string s, .int .i64 (n : Int)] w fun e w' => ∃ a b c, e = .returned (.agg #[a, b, c]) ∧ BR w' a b c n (strBit s) ∧ Below w.heap.size w w' := by
  have hmf : ∀ (fn : Fn) (first cap : Array Value) (w : World), (Instr.makeFunc fn first cap).run Tryz.prog w = .ok (.func fn first cap) w := fun _ _ _ _ => rfl
  have hk0 := Blk.new w 9 #[.string s]
  have hk1 := Blk.new (w.alloc (.cells #[.string s] 9)) 70 #[.int .i64 0, .slice none 0 0, .slice none 0 0]
  have hk2 := hk0.alloc (.cells #[.int .i64 0, .slice none 0 0, .slice none 0 0] 70)
  have hb0 : Below w.heap.size w ((w.alloc (.cells #[.string s] 9)).alloc (.cells #[.int .i64 0, .slice none 0 0, .slice none 0 0] 70)) := ((Below.refl _ _).alloc (Nat.le_refl _) _).alloc (by simp) _
  rw [show (w.alloc (.cells #[.string s] 9)).heap.size = w.heap.size + 1 from by simp] at hk1
  go_enter Tryz.func145, Tryz.ntmps145
  go_wp2_with fail
  generalize hW : (w.alloc (.cells #[.string s] 9)).alloc (.cells #[.int .i64 0, .slice none 0 0, .slice none 0 0] 70) = W0 at *
  have hs0 : W0.heap.size = w.heap.size + 1 + 1 := by rw [← hW]; simp
  clear hk0 hW
  refine (bitOf_any n 157 #[.pointer (some ⟨w.heap.size, 0, none⟩)] (strBit s) W0 hn enterUnpack (fun i hi w1 hb1 => ?_)).mono ?_
  · rw [strBit_lt s i (by omega)]
    exact (unpack1_any s i w.heap.size w1 (by omega) (by omega) (hk2.below hb1 (by omega))).mono (fun e w' h => ⟨h.1, h.2 ▸ Below.refl _ _⟩)
  · rintro e w1 ⟨gw, ga, rfl, ⟨W, hrw, hbits⟩, hra, hgw, hga, hb1⟩
    have hk3 := hk1.below hb1 (by omega)
    have hf0 : w1.cell? ⟨w.heap.size + 1, 0, none⟩ = some (.int .i64 0) := hk3.cell 0
    have hf1 : w1.cell? ⟨w.heap.size + 1, 1, none⟩ = some (.slice none 0 0) := hk3.cell 1
    have hf2 : w1.cell? ⟨w.heap.size + 1, 2, none⟩ = some (.slice none 0 0) := hk3.cell 2
    have hz0 := hk3.free 0
    have hz1 := hk3.free 1
    have hz2 := hk3.free 2
    go_wp2
    have hne1 : gw ≠ w.heap.size + 1 := by omega
    have hne2 : ga ≠ w.heap.size + 1 := by omega
    exact bodyPost_ret (v := .agg #[.int .i64 (n : Int), .slice (some ⟨gw, 0, none⟩) (n / 64 + 1) (n / 64 + 1), .slice (some ⟨ga, 0, none⟩) (n / 64 + 1) (n / 64 + 1)]) (results_cell_row (P := Tryz.prog) rfl _ _ (w.heap.size + 1) 70 _ (0, 0) _ rfl (((hk3.set 0 _).set 1 _).set 2 _) Tryz.underlying70 rfl infoBR) rfl
      ⟨_, _, _, rfl, ⟨gw, ga, W, rfl, rfl, rfl, ((hrw.setOther hne1 _).setOther hne1 _).setOther hne1 _, hbits, ((hra.setOther hne2 _).setOther hne2 _).setOther hne2 _⟩, (((hb0.trans (hb1.mono (by omega))).setCell (by show w.heap.size ≤ w.heap.size + 1; omega) _).setCell (by show w.heap.size ≤ w.heap.size + 1; omega) _).setCell (by show w.heap.size ≤ w.heap.size + 1; omega) _⟩

theorem BR.bit {a b c : Value} {n i : Nat} {f : Nat → Bool} {w : World} (h : BR w a b c n f) (hn : n ≤ 2001) (hi : i < n) :
    Calls Tryz.prog 131 #[.agg #[a, b, c], .int .i64 (i : Int)] w fun e w' => e = .returned (.bool (f i)) ∧ Below w.heap.size w w' := by
  obtain ⟨gw, ga, W, rfl, rfl, rfl, h4, h5, h6⟩ := h
  have hb := h5 (i / 64) (by omega)
  have he : (W (i / 64)).testBit (i % 64) = f i := by rw [hb.2 _ (Nat.mod_lt _ (by decide)), show 64 * (i / 64) + i % 64 = i from by omega, ct_lt hi]
  rw [← he]
  exact bit_any _ gw _ _ i _ W w (by omega) (by omega) hb.1 h4

theorem BR.ones {a b c : Value} {n p : Nat} {f : Nat → Bool} {w : World} (h : BR w a b c n f) (hn : n ≤ 2001) (hp : p ≤ n) :
    Calls Tryz.prog 132 #[.agg #[a, b, c], .int .i64 (p : Int)] w fun e w' => e = .returned (.int .i64 ((cntB f p : Nat) : Int)) ∧ Below w.heap.size w w' := by
  obtain ⟨gw, ga, W, rfl, rfl, rfl, h4, h5, h6⟩ := h
  have hb := h5 (p / 64) (by omega)
  have hc1 : ∀ o, (w.alloc o).cell? ⟨gw, p / 64, none⟩ = some (.int .u64 (W (p / 64) : Int)) := fun o => (h4.alloc o).cell (by omega)
  have hc2 : ∀ o, (w.alloc o).cell? ⟨ga, p / 64, none⟩ = some (.int .i64 ((cntB (ct f n) (64 * (p / 64)) : Nat) : Int)) := fun o => (h6.alloc o).cell (by omega)
  have hr64 : p % 64 < 64 := Nat.mod_lt _ (by decide)
  have hp2 : 2 ^ (p % 64) < 2 ^ 64 := Nat.pow_lt_pow_right (by decide) hr64
  have hp1 := Nat.two_pow_pos (p % 64)
  have HB : Hid (IntKind.u64.wrap (IntKind.u64.wrap (2 ^ (p % 64)) - 1) = ((2 ^ (p % 64) - 1 : Nat) : Int)) := by
    show IntKind.u64.wrap (IntKind.u64.wrap (2 ^ (p % 64)) - 1) = _
    have e2 : (2 : Int) ^ (p % 64) = ((2 ^ (p % 64) : Nat) : Int) := by simp
    rw [e2]
    generalize 2 ^ (p % 64) = P at *
    have e3 : IntKind.u64.wrap (P : Int) = (P : Int) := by simp [IntKind.wrap, IntKind.bits, IntKind.signed]; omega
    rw [e3]
    simp [IntKind.wrap, IntKind.bits, IntKind.signed]; omega
  have hand := u64_and_nat (W (p / 64)) (2 ^ (p % 64) - 1) (by simpa using hb.1) (by omega)
  have HC : Hid (cntB (fun i => (W (p / 64) &&& (2 ^ (p % 64) - 1)).testBit i) 64 = cntB (fun j => ct f n (64 * (p / 64) + j)) (p % 64)) := by
    show cntB (fun i => (W (p / 64) &&& (2 ^ (p % 64) - 1)).testBit i) 64 = _
    rw [← cntB_cut (fun j => ct f n (64 * (p / 64) + j)) (Nat.le_of_lt hr64)]
    refine cntB_congr (fun i hi => ?_)
    rw [Nat.testBit_and, Nat.testBit_two_pow_sub_one, hb.2 i hi, Bool.and_comm]
  have hal : W (p / 64) &&& (2 ^ (p % 64) - 1) < 2 ^ 64 := Nat.lt_of_le_of_lt Nat.and_le_left hb.1
  have HS : Hid (cntB (ct f n) (64 * (p / 64)) + cntB (fun j => ct f n (64 * (p / 64) + j)) (p % 64) = cntB f p) := by
    show cntB (ct f n) (64 * (p / 64)) + cntB (fun j => ct f n (64 * (p / 64) + j)) (p % 64) = _
    rw [← cntB_add, show 64 * (p / 64) + p % 64 = p from by omega, cnt_ct f n p hp]
  have hle1 := cntB_le (ct f n) (64 * (p / 64))
  have hle2 := cntB_le (fun j => ct f n (64 * (p / 64) + j)) (p % 64)
  have hon : ∀ w, Calls Tryz.prog 152 #[.int .u64 ((W (p / 64) &&& (2 ^ (p % 64) - 1) : Nat) : Int)] w fun e w' => e = .returned (.int .i64 ((cntB (fun j => ct f n (64 * (p / 64) + j)) (p % 64) : Nat) : Int)) ∧ w' = w := fun w => by
    rw [← HC.out]; exact onesCount_any _ w hal
  clear HC hp2 hal
  generalize cntB (ct f n) (64 * (p / 64)) = C1 at *
  generalize cntB (fun j => ct f n (64 * (p / 64) + j)) (p % 64) = C2 at *
  generalize 2 ^ (p % 64) - 1 = B2 at *
  generalize W (p / 64) &&& B2 = D at *
  go_enter Tryz.func132, Tryz.ntmps132
  go_wp2_with fail
  rw [HB.out]
  go_quiet ((go_at_call 152; exact Calls.quiet_of_same (hon _)))
  go_wp2
  go_ret
  exact ⟨by rw [← HS.out, Int.natCast_add]; rfl, bdrewN ((Below.refl _ _).alloc (Nat.le_refl _) _) _⟩

/-- A number of its bits. -/
def ob (F : Nat → Bool) : Nat → Nat
  | 0 => 0
  | m + 1 => ob F m ||| (if F m then 2 ^ m else 0)
theorem ob_lt (F : Nat → Bool) (m : Nat) : ob F m < 2 ^ m := by
  induction m with
  | zero => exact Nat.one_pos
  | succ m ih =>
    have h1 : 2 ^ m < 2 ^ (m + 1) := Nat.pow_lt_pow_right (by decide) (by omega)
    have h2 : (if F m then 2 ^ m else 0) < 2 ^ (m + 1) := by split <;> omega
    exact Nat.or_lt_two_pow (by omega) h2
theorem ob_bit (F : Nat → Bool) (m i : Nat) : (ob F m).testBit i = (decide (i < m) && F i) := by
  induction m with
  | zero => simp [ob]
  | succ m ih =>
    have h2 : (if F m then 2 ^ m else 0 : Nat).testBit i = (F m && decide (m = i)) := by
      cases F m
      · simp
      · simp [Nat.testBit_two_pow]
    rw [ob, Nat.testBit_or, ih, h2]
    by_cases e : m = i
    · subst e; simp
    · rw [decide_eq_false e, Bool.and_false, Bool.or_false]
      by_cases h1 : i < m
      · rw [decide_eq_true h1, decide_eq_true (show i < m + 1 by omega)]
      · rw [decide_eq_false h1, decide_eq_false (show ¬ i < m + 1 by omega)]
/-- The j-th byte of a row of bits. -/
def pkB (F : Nat → Bool) (j : Nat) : UInt8 := UInt8.ofNat (ob (fun i => F (8 * j + i)) 8)
theorem pkB_toNat (F : Nat → Bool) (j : Nat) : (pkB F j).toNat = ob (fun i => F (8 * j + i)) 8 := by
  have := ob_lt (fun i => F (8 * j + i)) 8
  simp only [pkB, UInt8.toNat_ofNat']
  omega
theorem pkB_bit (F : Nat → Bool) (j i : Nat) (hi : i < 8) : (pkB F j).toNat.testBit i = F (8 * j + i) := by
  rw [pkB_toNat, ob_bit, decide_eq_true hi, Bool.true_and]
/-- A row of bits, packed. -/
def packed (f : Nat → Bool) (n : Nat) : List UInt8 := (List.range ((n + 7) / 8)).map (pkB (ct f n))
theorem packed_length (f : Nat → Bool) (n : Nat) : (packed f n).length = (n + 7) / 8 := by simp [packed]
theorem packed_get (f : Nat → Bool) (n j : Nat) (h : j < (n + 7) / 8) : (packed f n).getD j 0 = pkB (ct f n) j := by
  simp [packed, List.getD_eq_getElem?_getD, h]
theorem packed_congr {f g : Nat → Bool} {n : Nat} (h : ∀ i, i < n → f i = g i) : packed f n = packed g n := by
  have : ct f n = ct g n := by
    funext j
    by_cases h1 : j < n
    · rw [ct_lt h1, ct_lt h1, h j h1]
    · rw [ct_ge h1, ct_ge h1]
  rw [packed, packed, this]
theorem strBit_packed (f : Nat → Bool) (n i : Nat) (h : i < n) : strBit (bs (packed f n)) i = f i := by
  have hs : i / 8 < (bs (packed f n)).size := by rw [bs_size, packed_length]; omega
  rw [strBit_lt _ _ hs, ← tx_getD _ _ hs, tx_bs, packed_get _ _ _ (by omega), pkB_bit _ _ _ (Nat.mod_lt _ (by decide)), show 8 * (i / 8) + i % 8 = i from by omega, ct_lt h]

/-- A byte out of a word. -/
theorem word_byte {W : Nat → Nat} {m : Nat} {F : Nat → Bool} (h : Bits W m F) (j : Nat) (hj : 8 * j / 64 < m) : W (8 * j / 64) / 2 ^ (8 * j % 64) % 256 = (pkB F j).toNat := by
  rw [pkB_toNat]
  apply Nat.eq_of_testBit_eq
  intro i
  rw [ob_bit, show (256 : Nat) = 2 ^ 8 from rfl, Nat.testBit_mod_two_pow, Nat.testBit_div_two_pow]
  by_cases hi : i < 8
  · rw [decide_eq_true hi, Bool.true_and, Bool.true_and, (h _ hj).2 _ (by omega)]
    congr 1; omega
  · rw [decide_eq_false hi, Bool.false_and, Bool.false_and]

set_option maxRecDepth 10000 in
set_option maxHeartbeats 400000 in
theorem BR.pack {a b c : Value} {n : Nat} {f : Nat → Bool} {w : World} (h : BR w a b c n f) (hn : n ≤ 2001) :
    Calls Tryz.prog 139 #[.agg #[a, b, c]] w fun e w' => e = .returned (.string (bs (packed f n))) ∧ Below w.heap.size w w' := by
  obtain ⟨gw, ga, W, rfl, rfl, rfl, h4, h5, h6⟩ := h
  obtain ⟨i0, hi, hz0, hz1, hz2⟩ := info_parts Tryz.info5
  have H5 : Hid _ := h5
  clear h5 h6
  have hk0 := Blk.new w 70 #[.int .i64 (n : Int), .slice (some ⟨gw, 0, none⟩) (n / 64 + 1) (n / 64 + 1), .slice (some ⟨ga, 0, none⟩) (n / 64 + 1) (n / 64 + 1)]
  have hb0 : Below w.heap.size w (w.alloc (.cells #[.int .i64 (n : Int), .slice (some ⟨gw, 0, none⟩) (n / 64 + 1) (n / 64 + 1), .slice (some ⟨ga, 0, none⟩) (n / 64 + 1) (n / 64 + 1)] 70)) := (Below.refl _ _).alloc (Nat.le_refl _) _
  have h40 := h4.alloc (.cells #[.int .i64 (n : Int), .slice (some ⟨gw, 0, none⟩) (n / 64 + 1) (n / 64 + 1), .slice (some ⟨ga, 0, none⟩) (n / 64 + 1) (n / 64 + 1)] 70)
  have hlt4 := h4.lt
  clear h4
  go_enter Tryz.func139, Tryz.ntmps139
  go_wp2_with fail
  generalize hW : w.alloc (.cells #[.int .i64 (n : Int), .slice (some ⟨gw, 0, none⟩) (n / 64 + 1) (n / 64 + 1), .slice (some ⟨ga, 0, none⟩) (n / 64 + 1) (n / 64 + 1)] 70) = W0 at *
  have hs0 : W0.heap.size = w.heap.size + 1 := by rw [← hW]; simp
  clear hW
  refine (packedSize_any n W0 (by omega)).mono ?_
  rintro e w1 ⟨rfl, rfl⟩
  obtain ⟨m, hm⟩ : ∃ m, m = (n + 7) / 8 := ⟨_, rfl⟩
  rw [← hm]
  have HM : Hid (m = (n + 7) / 8) := hm
  have hmle : 8 * m ≤ n + 7 := by omega
  have hmge : n ≤ 8 * m := by omega
  clear hm
  go_wp2_with (at_make; refine wpList_make_full _ rfl _ _ 75 rfl 0 5 i0 (.int .u8 0) 1 Tryz.underlying75 hi hz0 hz1 .i64 .i64 _ _ m rfl rfl (by omega) (by omega) (by rw [hz2]; omega) (by unfold maxLen; omega) (by omega) ?_; intro w2 hown hgr)
  have hrow := Row.made hown
  rw [hs0] at hrow
  have hb2 := hb0.grown hgr (by omega) (fun _ h => by cases h)
  have hk2 := hk0.grown hgr (by simp)
  have h42 := h40.grown hgr (by simp)
  have hsz := hgr.size
  clear hown hgr hk0 hb0 h40
  go_loopw [12, 4, 5] (fun p _ _ wr => ∃ k : Nat, k ≤ m ∧ p = .int .i64 (k : Int) ∧ (∃ tf, Row wr (w.heap.size + 1) 5 m (IB tf) ∧ Hid (∀ j, j < k → tf j = pkB (ct f n) j)) ∧ Blk wr w.heap.size 70 #[.int .i64 (n : Int), .slice (some ⟨gw, 0, none⟩) (n / 64 + 1) (n / 64 + 1), .slice (some ⟨ga, 0, none⟩) (n / 64 + 1) (n / 64 + 1)] ∧ Row wr gw 92 (n / 64 + 1) (IU W) ∧ Below w.heap.size w wr) (fun p _ _ _ => m - (intOf p).toNat)
  case atStart => exact ⟨0, Nat.zero_le _, rfl, ⟨fun _ => 0, hrow, fun j hj => by omega⟩, hk2, h42, hb2⟩
  case round =>
    clear hrow hk2 h42 hb2
    obtain ⟨k, hk, rfl, ⟨tf, ht, HT⟩, hk2, h42, hb⟩ := hrel
    by_cases hlt : k < m
    · have hc1 : wr.cell? ⟨w.heap.size, 1, none⟩ = some (.slice (some ⟨gw, 0, none⟩) (n / 64 + 1) (n / 64 + 1)) := hk2.cell 1
      have hc2 := h42.cell (show 8 * k / 64 < n / 64 + 1 by omega)
      rw [IU_at] at hc2
      have hc3 := ht.cell hlt
      have hfz := ht.free k
      have HWB : Hid _ := word_byte H5.out k (by omega)
      have hq1 : (k : Int) * 8 / 64 = ((8 * k / 64 : Nat) : Int) := by omega
      have hq2 : (k : Int) * 8 % 64 = ((8 * k % 64 : Nat) : Int) := by omega
      have HV : Hid ((W (8 * k / 64) : Int) / 2 ^ (8 * k % 64) % 256 = ((pkB (ct f n) k).toNat : Int)) := by
        show (W (8 * k / 64) : Int) / 2 ^ (8 * k % 64) % 256 = _
        rw [← HWB.out]; simp
      clear HWB
      go_wp2
      go_roundw
      case rel =>
        rw [HV.out]
        exact ⟨k + 1, by omega, by go_num, ⟨_, ht.setB k (pkB (ct f n) k), upd_next HT.out rfl⟩, hk2.setOther (by show w.heap.size ≠ w.heap.size + 1; omega) _, h42.setOther (by show gw ≠ w.heap.size + 1; omega) _, hb.setCell (by show w.heap.size ≤ w.heap.size + 1; omega) _⟩
      case measure => simp [intOf]; omega
    · have hkm : k = m := by omega
      subst hkm
      have hcv : ∀ cap, (convert 75 9 (.slice (some ⟨w.heap.size + 1, 0, none⟩) k cap)).run Tryz.prog wr = .ok (.string (bs (packed f n))) wr := by
        intro cap
        have hl : k = (packed f n).length := by rw [packed_length]; exact HM.out
        rw [hl] at ht ⊢
        refine conv_row ht (fun j hj => ?_)
        rw [HT.out j (by omega), packed_get _ _ _ (by rw [← HM.out]; omega)]
      go_wp2
      go_ret
      exact ⟨rfl, hb⟩
end Go.Proofs.YtkebgnpifmcmaabGreat

namespace Go.Proofs.YtkebgnpifmcmaabGreat
open Go.RowKit

/-- An array of so many values, by a function. -/
def AN (n : Nat) (F : Nat → Value) : Array Value := (Array.range n).map F
theorem AN_size (n : Nat) (F : Nat → Value) : (AN n F).size = n := by simp [AN]
theorem AN_get (n : Nat) (F : Nat → Value) (j : Nat) (h : j < n) : (AN n F)[j]? = some (F j) := by simp [AN, h]
theorem AN_set (n : Nat) (F : Nat → Value) (j : Nat) (v : Value) : (AN n F).setIfInBounds j v = AN n (updV F j v) := by
  apply Array.ext_getElem?
  intro i
  rw [Array.getElem?_setIfInBounds]
  by_cases e : j = i
  · subst e
    rw [if_pos rfl, AN_size]
    by_cases h : j < n
    · rw [if_pos h, AN_get _ _ _ h]; simp [updV]
    · rw [if_neg h]; symm; rw [Array.getElem?_eq_none_iff, AN_size]; omega
  · rw [if_neg e]
    by_cases h : i < n
    · rw [AN_get _ _ _ h, AN_get _ _ _ h]; simp [updV]; intro h2; exact absurd h2.symm e
    · have h1 : (AN n F)[i]? = none := by rw [Array.getElem?_eq_none_iff, AN_size]; omega
      have h2 : (AN n (updV F j v))[i]? = none := by rw [Array.getElem?_eq_none_iff, AN_size]; omega
      rw [h1, h2]
theorem AN_one (n : Nat) (F : Nat → Value) (h : ∀ j, (F j).oneCell' = true) : (AN n F).all (·.oneCell') = true := by
  rw [Array.all_eq_true_iff_forall_mem]
  intro v hv
  simp only [AN, Array.mem_map] at hv
  obtain ⟨j, _, rfl⟩ := hv
  exact h j
theorem Blk.cellAN {w : World} {g : Nat} {T : TypeId} {n : Nat} {F : Nat → Value} (h : Blk w g T (AN n F)) {j : Nat} (hj : j < n) : w.cell? ⟨g, j, none⟩ = some (F j) := by rw [h.cell j, AN_get _ _ _ hj]
theorem Blk.setAN {w : World} {g : Nat} {T : TypeId} {n : Nat} {F : Nat → Value} (h : Blk w g T (AN n F)) (j : Nat) (v : Value) : Blk (w.setCell ⟨g, j, none⟩ v) g T (AN n (updV F j v)) := by
  rw [← AN_set]; exact h.set j v

def VB (f : Nat → Bool) : Nat → Value := fun j => .bool (f j)
theorem VB_at (f : Nat → Bool) (j : Nat) : VB f j = .bool (f j) := rfl
theorem updV_VB (f : Nat → Bool) (j : Nat) (x : Bool) : updV (VB f) j (.bool x) = VB (upd f j x) := by
  funext i; simp only [updV, VB, upd]; split <;> rfl

theorem run_alloc_AN (w : World) (T n : Nat) (z : Value) (h : (Tryz.prog.info? T).map (fun i => (i.zero, i.size)) = some (some (.agg (AN n fun _ => z)), n)) : (Instr.alloc T true (.tuple #[])).run Tryz.prog w = .ok (.pointer (some ⟨w.heap.size, 0, none⟩)) (w.alloc (.cells (AN n fun _ => z) T)) := by
  cases hq : Tryz.prog.info? T with
  | none => rw [hq] at h; cases h
  | some i =>
    rw [hq] at h
    simp only [Option.map_some, Option.some.injEq, Prod.mk.injEq] at h
    have hz := h.1
    simp [Instr.alloc, zeroValue, typeInfo, hq, hz, newVar, newRow, Value.cells]
theorem wpList_alloc_AN {ops : Array Oper} {rest : List Oper} {o : Oper} {a : Act} {w : World} {Q : Exit → Act → World → Prop} (hg : o.guard = none) (T n : Nat) (z : Value) (hT : (Tryz.prog.info? T).map (fun i => (i.zero, i.size)) = some (some (.agg (AN n fun _ => z)), n)) (ho : o.op = .alloc T)
    (h : wpList Tryz.prog ops Q rest (a.put o.dst (.pointer (some ⟨w.heap.size, 0, none⟩))) (w.alloc (.cells (AN n fun _ => z) T))) : wpList Tryz.prog ops Q (o :: rest) a w := by
  refine wpList_plain hg fun K hK => ?_
  unfold Oper.wp
  simp only [execOp, ho, Sem.run_bind, Sem.run_pure, run_alloc_AN _ T n z hT, Result.andThen]
  exact hK _ _ h

theorem info256b : (Tryz.prog.info? 204).map (fun i => (i.zero, i.size)) = some (some (.agg (AN 256 fun _ => .bool false)), 256) := by kernel_rfl
theorem info256b_size : (Tryz.prog.info? 204).map (·.size) = some 256 := by kernel_rfl
theorem Tryz.info4 : (Tryz.prog.info? 4).map (fun i => (i.zero, i.size, i.bytes)) = some (some (.bool false), 1, 1) := by kernel_rfl
theorem run_index_arrb (w : World) (f : Nat → Bool) (k : Nat) (hk : k < 256) : (Instr.index 204 (.agg (AN 256 (VB f))) (.int .i64 (k : Int))).run Tryz.prog w = .ok (.bool (f k)) w := by
  obtain ⟨i0, hi, _, hz1, _⟩ := info_parts Tryz.info4
  have h1 := AN_get 256 (VB f) k hk
  rw [VB_at] at h1
  simp [Instr.index, asIntOf, run_underlying Tryz.underlying204, run_underlying Tryz.underlying4, part, isAgg, sizeOf, typeInfo, hi, hz1, h1]
  omega

/-- Does a byte occur? -/
def occ (s : ByteArray) (k : Nat) (c : Nat) : Bool := decide (cnt (byN s) c k ≠ 0)
theorem occ_next (s : ByteArray) (k c : Nat) : occ s (k + 1) c = upd (occ s k) (byN s k) true c := by
  by_cases e : c = byN s k
  · subst e; rw [upd_at]; simp [occ, cnt]
  · rw [upd_ne _ _ _ e]; unfold occ; rw [cnt_other _ _ _ (fun h => e h.symm)]
/-- The letters, rising. -/
def lets (F : Nat → Bool) : Nat → List UInt8
  | 0 => []
  | c + 1 => lets F c ++ (if F c then [UInt8.ofNat c] else [])
theorem lets_length (F : Nat → Bool) (c : Nat) : (lets F c).length = cntB F c := by
  induction c with
  | zero => rfl
  | succ c ih => simp only [lets, List.length_append, ih, cntB]; cases F c <;> rfl
theorem lets_le (F : Nat → Bool) (c : Nat) : (lets F c).length ≤ c := by rw [lets_length]; exact cntB_le _ _
def letters (s : ByteArray) : List UInt8 := lets (occ s s.size) 256

set_option maxRecDepth 100000 in
set_option maxHeartbeats 1000000 in
theorem lettersOf_any (s : ByteArray) (w : World) (hn : s.size ≤ 2000) :
    Calls Tryz.prog 154 #[.string s] w fun e w' => e = .returned (.string (bs (letters s))) ∧ Below w.heap.size w w' := by
  obtain ⟨i0, hi, hz0, hz1, hz2⟩ := info_parts Tryz.info5
  have ha0 := Blk.new w 204 (AN 256 (VB fun _ => false))
  have hb0 : Below w.heap.size w (w.alloc (.cells (AN 256 (VB fun _ => false)) 204)) := (Below.refl _ _).alloc (Nat.le_refl _) _
  go_enter Tryz.func154, Tryz.ntmps154
  go_wp2_with (refine wpList_alloc_AN rfl 204 256 (.bool false) info256b rfl ?_)
  change Blk (w.alloc (.cells (AN 256 fun _ => .bool false) 204)) _ _ _ at ha0
  change Below _ _ (w.alloc (.cells (AN 256 fun _ => .bool false) 204)) at hb0
  generalize w.alloc (.cells (AN 256 fun _ => .bool false) 204) = W0 at *
  go_loopw [10, 4] (fun i _ wr => ∃ k : Nat, k ≤ s.size ∧ i = .int .i64 (k : Int) ∧ Blk wr w.heap.size 204 (AN 256 (VB (occ s k))) ∧ Below w.heap.size w wr) (fun i _ _ => s.size - (intOf i).toNat)
  case atStart => exact ⟨0, Nat.zero_le _, rfl, ha0, hb0⟩
  case round =>
    clear ha0 hb0
    obtain ⟨k, hk, rfl, ha, hb⟩ := hrel
    by_cases hlt : k < s.size
    · have hby := (s[k]).toNat_lt
      have hc1 := ha.cellAN hby
      have hfz := ha.free (s[k]).toNat
      have HN : Hid (updV (VB (occ s k)) (s[k]).toNat (.bool true) = VB (occ s (k + 1))) := by
        show updV (VB (occ s k)) (s[k]).toNat (.bool true) = _
        rw [updV_VB, ← byN_lt s k hlt]; congr 1; funext c; exact (occ_next s k c).symm
      go_wp2
      go_roundw
      case rel => exact ⟨k + 1, by omega, by go_num, by rw [← HN.out]; exact ha.setAN _ _, hb.setCell (Nat.le_refl _) _⟩
      case measure => simp [intOf]; omega
    · have hkn : k = s.size := by omega
      subst hkn
      go_wp2_with (refine wpList_load_row rfl 204 (.tmp 3) rfl w.heap.size rfl 204 (AN 256 (VB (occ s s.size))) (0, 0) _ ha Tryz.underlying204 rfl (by rw [AN_size]; exact info256b_size) ?_)
      have hix := fun w c (h : c < 256) => run_index_arrb w (occ s s.size) c h
      have HIX : Hid _ := hix
      clear hix
      have hown0 := World.ownsRow_nil wr w.heap.size 5 1
      go_loopw [5, 19, 6, 7] (fun v i _ _ wr => ∃ c : Nat, c ≤ 256 ∧ i = .int .i64 (c : Int) ∧ wr.ownsRow w.heap.size 5 1 v (lets (occ s s.size) c).length (BL (lets (occ s s.size) c)) ∧ Below w.heap.size w wr) (fun _ i _ _ _ => 256 - (intOf i).toNat)
      case atStart => exact ⟨0, Nat.zero_le _, rfl, hown0, hb⟩
      case round =>
        clear hown0 hb ha
        obtain ⟨c, hc, rfl, hown, hb⟩ := hrel
        have hll := lets_le (occ s s.size) c
        have hsz := hb.size
        by_cases hlt2 : c < 256
        · have hix := fun w => HIX.out w c hlt2
          by_cases ho : occ s s.size c = true
          · have hcv : (UInt8.ofNat c).toNat = c := by simp [UInt8.toNat_ofNat']; omega
            have HN : Hid (lets (occ s s.size) (c + 1) = lets (occ s s.size) c ++ [UInt8.ofNat c]) := by
              show lets (occ s s.size) (c + 1) = _
              simp [lets, ho]
            have hw : IntKind.u8.wrap (c : Int) = (c : Int) := by simp [IntKind.wrap, IntKind.bits, IntKind.signed]; omega
            rw [ho] at hix
            go_wp2_with (at_builtin; refine wpList_append_own _ rfl (.tmp 24) (.tmp 27) 75 rfl w.heap.size 5 i0 (.int .u8 0) 1 1 Tryz.underlying75 hi hz0 hz1 hz2 rfl (by decide) u5 (lets (occ s s.size) c).length _ rfl (hown.alloc _) ⟨wr.heap.size, 0, none⟩ 1 1 [.int .u8 (c : Int)] rfl rfl (cell_one_new _ _ _) (by simp; rfl) (by unfold maxLen; omega) (by omega) (by simp; omega) ?_; intro v' w1 hown1 hgr1 _)
            have hb1 : Below w.heap.size w w1 := (hb.alloc hsz _).grown hgr1 (by simp; omega) (fun k hk => (hown.lt k hk).1)
            rw [show (.int .u8 (c : Int) : Value) = .int .u8 ((UInt8.ofNat c).toNat : Int) from by rw [hcv], BL_snoc] at hown1
            have hown1' : w1.ownsRow w.heap.size 5 1 v' (lets (occ s s.size) (c + 1)).length (BL (lets (occ s s.size) (c + 1))) := by
              rw [HN.out, List.length_append]; exact hown1
            go_roundw
            case rel => exact ⟨c + 1, by omega, by go_num, hown1', hb1⟩
            case measure => simp [intOf]; omega
          · have ho' : occ s s.size c = false := by simpa using ho
            have HN : Hid (lets (occ s s.size) (c + 1) = lets (occ s s.size) c) := by
              show lets (occ s s.size) (c + 1) = _
              simp [lets, ho']
            rw [ho'] at hix
            go_wp2
            go_roundw
            case rel => exact ⟨c + 1, by omega, by go_num, by rw [HN.out]; exact hown, hb⟩
            case measure => simp [intOf]; omega
        · have hc256 : c = 256 := by omega
          subst hc256
          have hcv := conv_own hown
          go_wp2
          go_ret
          exact ⟨rfl, hb⟩
end Go.Proofs.YtkebgnpifmcmaabGreat

namespace Go.Proofs.YtkebgnpifmcmaabGreat
open Go.RowKit

theorem step_append_own {P : Program} {ops : Array Oper} {o : Oper} {a : Act} {w : World} {K : Act → World → Prop} {Q : Exit → Act → World → Prop} {E : Prop}
    (hg : o.guard = none) (s x : Operand) (t : TypeId) (hop : o.op = Op.call { callee := Callee.builtin Builtin.append, args := #[s, x], argTypes := #[t, t] })
    (base : Nat) (e : TypeId) (i : TypeInfo) (z : Value) (size bytes : Nat) (ht : P.underlying t = some (.slice e)) (hi : P.info? e = some i) (hz : i.zero = some z)
    (hsize : i.size = size) (hby : i.bytes = bytes) (hzs : z.cells.size = size) (hsz : 0 < size)
    (v : Value) (n : Nat) (xs : List Value) (hs : a.eval s = v) (hown : w.ownsRow base e size v n xs)
    (ad : Addr) (m c : Nat) (news : List Value) (hx : a.eval x = .slice (some ad) m c) (hl : news.length = m * size) (hnews : ∀ j u, news[j]? = some u → w.cell? (ad.add j) = some u) (h1 : ∀ u ∈ news, u.oneCell' = true)
    (h63 : n + m ≤ maxLen) (hbytes : (n + m) * bytes ≤ 140737488355328) (hbase : base ≤ w.heap.size)
    (hK : ∀ v' w', w'.ownsRow base e size v' (n + m) (xs ++ news) → w.grownBy w' v.ownBlock → K (a.put o.dst v') w') :
    if Region.wanted o (yielded ops a.tmps) = true then Oper.wp P o a w K Q else E := by
  have hw : Region.wanted o (yielded ops a.tmps) = true := by simp [Region.wanted, hg]
  rw [if_pos hw]
  exact wp_append_own w s x t hop base e i z size bytes ht hi hz hsize hby hzs hsz v n xs hs hown ad m c news hx hl hnews h1 h63 hbytes hbase fun v' w' h2 h3 _ => hK v' w' h2 h3

theorem step_calls {P : Program} {ops : Array Oper} {o : Oper} {a : Act} {w : World} {K : Act → World → Prop} {Q : Exit → Act → World → Prop} {E : Prop} {f : FuncId} {ags : Array Operand} {ts : Array TypeId} {args : Array Value} {R : Ending → World → Prop}
    (hg : o.guard = none) (hop : o.op = Op.call { callee := Callee.value (Operand.func f), args := ags, argTypes := ts }) (hin : ∀ args w, (callFunc f args).run P w = .ok (.enter f args) w) (hev : ags.map a.eval = args)
    (hC : Calls P f args w R) (hK : ∀ e w', R e w' → ∃ v, e = .returned v ∧ K (a.put o.dst v) w') :
    if Region.wanted o (yielded ops a.tmps) = true then Oper.wp P o a w K Q else E := by
  have hw : Region.wanted o (yielded ops a.tmps) = true := by simp [Region.wanted, hg]
  rw [if_pos hw]
  unfold Oper.wp
  have hrun : (execOp a.eval o).run P w = .ok (.enter f args) w := by
    simp [execOp, hop, resolve, invoke, hev, hin, Act.eval, Deferred.ofValue]
  rw [hrun, Oper.upon_enter]
  refine hC.mono (fun e w' h => ?_)
  obtain ⟨v, rfl, hk⟩ := hK e w' h
  exact hk

theorem cell_three_new (w : World) (T : TypeId) (a b c : Value) : ∀ (j : Nat) (u : Value), [a, b, c][j]? = some u → (w.alloc (.cells #[a, b, c] T)).cell? ((⟨w.heap.size, 0, none⟩ : Addr).add j) = some u := by
  intro j u h
  have hk := Blk.new w T #[a, b, c]
  have h2 : (⟨w.heap.size, 0, none⟩ : Addr).add j = ⟨w.heap.size, j, none⟩ := by
    unfold Addr.add
    by_cases e : j = 0
    · simp [e]
    · simp [e]
  rw [h2, hk.cell j]
  simpa using h

theorem own_form {w : World} {base z n : Nat} {e : TypeId} {v : Value} {xs : List Value} (h : w.ownsRow base e z v n xs) (hn : 0 < n) : ∃ g cap, v = .slice (some ⟨g, 0, none⟩) n cap := by
  rcases h.2 with ⟨_, h0⟩ | ⟨g, cap, cur, rfl, _⟩
  · omega
  · exact ⟨g, cap, rfl⟩

theorem newFew1_any (s lt : ByteArray) (i k g0 g1 g2 : Nat) (w : World) (hi : i < s.size) (hk : k < lt.size) (h0 : Blk w g0 9 #[.string s]) (h1 : Blk w g1 9 #[.string lt]) (h2 : Blk w g2 3 #[.int .i64 (k : Int)]) :
    Calls Tryz.prog 159 #[.int .i64 (i : Int), .pointer (some ⟨g0, 0, none⟩), .pointer (some ⟨g1, 0, none⟩), .pointer (some ⟨g2, 0, none⟩)] w fun e w' => e = .returned (.bool (decide (s[i] = lt[k]))) ∧ Below w.heap.size w w' := by
  have hc0 : w.cell? ⟨g0, 0, none⟩ = some (.string s) := h0.cell 0
  have hc1 : w.cell? ⟨g1, 0, none⟩ = some (.string lt) := h1.cell 0
  have hc2 : w.cell? ⟨g2, 0, none⟩ = some (.int .i64 (k : Int)) := h2.cell 0
  have hv : Hid ((((s[i]).toNat : Int) == ((lt[k]).toNat : Int)) = decide (s[i] = lt[k])) := by
    show (((s[i]).toNat : Int) == ((lt[k]).toNat : Int)) = decide (s[i] = lt[k])
    by_cases e : s[i] = lt[k]
    · simp [e]
    · rw [decide_eq_false e]
      have : (s[i]).toNat ≠ (lt[k]).toNat := fun h => e (UInt8.toNat_inj.1 h)
      simp; omega
  have hq1 : (i : Int) < (s.size : Int) := by omega
  have hq2 : (k : Int) < (lt.size : Int) := by omega
  go_enter Tryz.func159, Tryz.ntmps159
  go_wp2_with fail
  go_quiet (fail)
  go_wp2
  go_ret
  exact ⟨by rw [← hv.out]; rfl, bdrewN (Below.refl _ _) _⟩
theorem enterBitOf (args : Array Value) (w : World) : (callFunc 143 args).run Tryz.prog w = .ok (.enter 143 args) w := Go.MuLone.run_callFunc_enter (P := Tryz.prog) Tryz.func143 (by kernel_rfl) rfl args w
theorem enterFew (args : Array Value) (w : World) : (callFunc 159 args).run Tryz.prog w = .ok (.enter 159 args) w := Go.MuLone.run_callFunc_enter (P := Tryz.prog) Tryz.func159 (by kernel_rfl) rfl args w

theorem Tryz.infoBR3 : (Tryz.prog.info? 70).map (fun i => (i.zero, i.size, i.bytes)) = some (some (.agg #[.int .i64 0, .slice none 0 0, .slice none 0 0]), 3, 56) := by kernel_rfl

/-- Is it this letter's bit? -/
def isLet (s lt : ByteArray) (k i : Nat) : Bool := if h : i < s.size ∧ k < lt.size then decide (s[i] = lt[k]) else false
theorem isLet_at (s lt : ByteArray) (k i : Nat) (h : i < s.size) (h2 : k < lt.size) : isLet s lt k i = decide (s[i] = lt[k]) := by simp [isLet, h, h2]

/-- The rows of bits of the letters, as cells. -/
def BRs (w : World) (s lt : ByteArray) (k : Nat) (xs : List Value) : Prop :=
  ∀ j, j < k → ∃ a b c, xs[3 * j]? = some a ∧ xs[3 * j + 1]? = some b ∧ xs[3 * j + 2]? = some c ∧ BR w a b c s.size (isLet s lt j)
theorem BRs.below {w w' : World} {s lt : ByteArray} {k : Nat} {xs : List Value} (h : BRs w s lt k xs) (hb : Below w.heap.size w w') : BRs w' s lt k xs := fun j hj => by
  obtain ⟨a, b, c, h1, h2, h3, h4⟩ := h j hj
  exact ⟨a, b, c, h1, h2, h3, h4.below hb⟩

theorem allocs3 (W : World) (X Y Z : Obj) : (((W.alloc X).alloc Y).alloc Z).heap[W.heap.size]? = some X ∧ (((W.alloc X).alloc Y).alloc Z).heap[W.heap.size + 1]? = some Y ∧ (((W.alloc X).alloc Y).alloc Z).heap[W.heap.size + 1 + 1]? = some Z ∧ Below W.heap.size W (((W.alloc X).alloc Y).alloc Z) ∧ (((W.alloc X).alloc Y).alloc Z).heap.size = W.heap.size + 1 + 1 + 1 :=
  have h := alloc3 W X Y Z rfl
  ⟨h.1, h.2.1, h.2.2.1, ⟨h.2.2.2.os, h.2.2.2.tape, h.2.2.2.output, h.2.2.2.size, h.2.2.2.block⟩, by simp⟩
theorem own_below3 {w w' : World} {base z : Nat} {e : TypeId} {v : Value} {n : Nat} {xs : List Value} (h : w.ownsRow base e z v n xs) (hb : Below w.heap.size w w') : w'.ownsRow base e z v n xs := by
  refine ⟨h.1, ?_⟩
  rcases h.2 with hn | ⟨g, cap, cur, rfl, hbs, hg, rest⟩
  · exact .inl hn
  · exact .inr ⟨g, cap, cur, rfl, hbs, (hb.block g (Array.getElem?_eq_some_iff.1 hg).1).trans hg, rest⟩
theorem blk_ne_own {w : World} {base g m z : Nat} {e e' : TypeId} {cs : Array Value} {v : Value} {xs : List Value} (h : Blk w g e cs) (ho : w.ownsRow base e' z v m xs) (hne : e ≠ e') : some g ≠ v.ownBlock := by
  intro x
  rcases ho.2 with ⟨rfl, _⟩ | ⟨g', cap, cur', rfl, _, hg', _⟩
  · cases x
  · simp only [Value.ownBlock, Option.some.injEq] at x
    subst x
    rw [h] at hg'
    simp only [Option.some.injEq, Obj.cells.injEq] at hg'
    exact hne hg'.2.1
theorem row_ne_own3 {w : World} {base g n m z : Nat} {e e' : TypeId} {F : Nat → Value} {v : Value} {xs : List Value} (h : Row w g e n F) (ho : w.ownsRow base e' z v m xs) (hne : e ≠ e') : some g ≠ v.ownBlock := by
  obtain ⟨cur, hg, _⟩ := h
  exact blk_ne_own (cs := cur) hg ho hne
theorem BR.grown {w w' : World} {base m z : Nat} {e' : TypeId} {v : Value} {xs : List Value} {a b c : Value} {n : Nat} {f : Nat → Bool} (h : BR w a b c n f) (ho : w.ownsRow base e' z v m xs) (hne : 92 ≠ e') (hne3 : 3 ≠ e') (hg : w.grownBy w' v.ownBlock) : BR w' a b c n f := by
  obtain ⟨gw, ga, W, h1, h2, h3, h4, h5, h6⟩ := h
  exact ⟨gw, ga, W, h1, h2, h3, h4.grown hg (row_ne_own3 h4 ho hne), h5, h6.grown hg (row_ne_own3 h6 ho hne3)⟩

theorem own_setOther {w : World} {base z n : Nat} {e : TypeId} {v : Value} {xs : List Value} (h : w.ownsRow base e z v n xs) (a : Addr) (u : Value) (hne : some a.block ≠ v.ownBlock) : (w.setCell a u).ownsRow base e z v n xs := by
  refine ⟨h.1, ?_⟩
  rcases h.2 with hn | ⟨g, cap, cur, rfl, hbs, hg, rest⟩
  · exact .inl hn
  · refine .inr ⟨g, cap, cur, rfl, hbs, (Below.heap_setCell w a u g (fun e => hne (by rw [e]; rfl))).trans hg, rest⟩
theorem BR.setBlk {w : World} {a b c : Value} {n : Nat} {f : Nat → Bool} (h : BR w a b c n f) {g : Nat} {T : TypeId} {cs : Array Value} (hk : Blk w g T cs) (h1 : T ≠ 92) (h2 : T ≠ 3) (j : Nat) (u : Value) : BR (w.setCell ⟨g, j, none⟩ u) a b c n f := by
  obtain ⟨gw, ga, W, r1, r2, r3, r4, r5, r6⟩ := h
  refine ⟨gw, ga, W, r1, r2, r3, r4.setOther (fun e => ?_) _, r5, r6.setOther (fun e => ?_) _⟩
  · obtain ⟨cur, hc, _⟩ := r4
    have e' : gw = g := e
    subst e'
    unfold Blk at hk
    rw [hc] at hk
    simp only [Option.some.injEq, Obj.cells.injEq] at hk
    exact h1 hk.2.1.symm
  · obtain ⟨cur, hc, _⟩ := r6
    have e' : ga = g := e
    subst e'
    unfold Blk at hk
    rw [hc] at hk
    simp only [Option.some.injEq, Obj.cells.injEq] at hk
    exact h2 hk.2.1.symm
theorem BRs.snoc {w : World} {s lt : ByteArray} {k : Nat} {xs : List Value} {a b c : Value} (h : BRs w s lt k xs) (hx : xs.length = 3 * k) (hr : BR w a b c s.size (isLet s lt k)) : BRs w s lt (k + 1) (xs ++ [a, b, c]) := by
  intro j hj
  by_cases e : j = k
  · subst e
    refine ⟨a, b, c, ?_, ?_, ?_, hr⟩
    · rw [List.getElem?_append_right (by omega), show 3 * j - xs.length = 0 from by omega]; rfl
    · rw [List.getElem?_append_right (by omega), show 3 * j + 1 - xs.length = 1 from by omega]; rfl
    · rw [List.getElem?_append_right (by omega), show 3 * j + 2 - xs.length = 2 from by omega]; rfl
  · obtain ⟨a', b', c', h1, h2, h3, h4⟩ := h j (by omega)
    exact ⟨a', b', c', by rw [List.getElem?_append_left (by omega)]; exact h1, by rw [List.getElem?_append_left (by omega)]; exact h2, by rw [List.getElem?_append_left (by omega)]; exact h3, h4⟩

set_option maxRecDepth 10000 in
set_option maxHeartbeats 1000000 in
theorem newFew_any (s lt : ByteArray) (w : World) (hn : s.size ≤ 2000) (hl : lt.size ≤ 300) :
    Calls Tryz.prog 155 #[.string s, .string lt] w fun e w' => ∃ g v xs, e = .returned (.pointer (some ⟨g, 0, none⟩)) ∧ Blk w' g 196 #[.int .i64 (s.size : Int), .string lt, v] ∧ w'.ownsRow w.heap.size 70 3 v lt.size xs ∧ BRs w' s lt lt.size xs ∧ Below w.heap.size w w' := by
  obtain ⟨i0, hi, hz0, hz1, hz2⟩ := info_parts Tryz.infoBR3
  have hmf : ∀ (fn : Fn) (first cap : Array Value) (w : World), (Instr.makeFunc fn first cap).run Tryz.prog w = .ok (.func fn first cap) w := fun _ _ _ _ => rfl
  have hA := allocs3 w (.cells #[.string s] 9) (.cells #[.string lt] 9) (.cells #[.int .i64 (s.size : Int), .string lt, .slice none 0 0] 196)
  go_enter Tryz.func155, Tryz.ntmps155
  go_wp2_with fail
  generalize ((w.alloc (.cells #[.string s] 9)).alloc (.cells #[.string lt] 9)).alloc (.cells #[.int .i64 (s.size : Int), .string lt, .slice none 0 0] 196) = W0 at *
  obtain ⟨k0, k1, k2, hb0, hs0⟩ := hA
  obtain ⟨G, hG⟩ : ∃ G, G = w.heap.size := ⟨_, rfl⟩
  rw [← hG] at k0 k1 k2 hb0 hs0 ⊢
  have HG : Hid (G = w.heap.size) := hG
  clear hG
  go_loopw [14, 6] (fun i _ wr => ∃ k : Nat, k ≤ lt.size ∧ i = .int .i64 (k : Int) ∧ Blk wr G 9 #[.string s] ∧ Blk wr (G + 1) 9 #[.string lt] ∧ (∃ v xs, Blk wr (G + 1 + 1) 196 #[.int .i64 (s.size : Int), .string lt, v] ∧ wr.ownsRow G 70 3 v k xs ∧ Hid (xs.length = 3 * k) ∧ BRs wr s lt k xs) ∧ Below G w wr) (fun i _ _ => lt.size - (intOf i).toNat)
  case atStart => exact ⟨0, Nat.zero_le _, rfl, k0, k1, ⟨_, [], k2, World.ownsRow_nil _ _ _ _, rfl, fun j hj => by omega⟩, hb0⟩
  case round =>
    clear k0 k1 k2 hb0
    obtain ⟨k, hk, rfl, k0, k1, ⟨v, xs, k2, hown, HX, hbr⟩, hb⟩ := hrel
    by_cases hlt : k < lt.size
    · have m0 := k0.alloc (.cells #[.int .i64 (k : Int)] 3)
      have m1 := k1.alloc (.cells #[.int .i64 (k : Int)] 3)
      have m2 := k2.alloc (.cells #[.int .i64 (k : Int)] 3)
      have m3 := Blk.new wr 3 #[.int .i64 (k : Int)]
      have hown1 := own_below3 hown ((Below.refl _ _).alloc (Nat.le_refl _) (.cells #[.int .i64 (k : Int)] 3))
      have hbr1 := hbr.below ((Below.refl _ _).alloc (Nat.le_refl _) (.cells #[.int .i64 (k : Int)] 3))
      have hb1 := hb.alloc (by rw [HG.out]; exact hb.size) (.cells #[.int .i64 (k : Int)] 3)
      go_upto_region 5 with fail
      have hsV : (wr.alloc (.cells #[.int .i64 (k : Int)] 3)).heap.size = wr.heap.size + 1 := by simp
      generalize wr.alloc (.cells #[.int .i64 (k : Int)] 3) = V at *
      have m0' : Blk V.drew G 9 #[.string s] := m0
      have m1' : Blk V.drew (G + 1) 9 #[.string lt] := m1
      have m3' : Blk V.drew wr.heap.size 3 #[.int .i64 (k : Int)] := m3
      have m2' : Blk V.drew (G + 1 + 1) 196 #[.int .i64 (s.size : Int), .string lt, v] := m2
      have hown1' : V.drew.ownsRow G 70 3 v k xs := hown1
      have hclos : ∀ i, i < s.size → ∀ w1, Below V.drew.heap.size V.drew w1 → Calls Tryz.prog 159 (#[.int .i64 (i : Int)] ++ #[.pointer (some ⟨G, 0, none⟩), .pointer (some ⟨G + 1, 0, none⟩), .pointer (some ⟨wr.heap.size, 0, none⟩)]) w1 fun e w' => e = .returned (.bool (isLet s lt k i)) ∧ Below w1.heap.size w1 w' := fun i hi w1 hb1 => by
        rw [isLet_at s lt k i hi hlt]
        exact newFew1_any s lt i k G (G + 1) wr.heap.size w1 hi hlt (m0'.below hb1 m0.lt) (m1'.below hb1 m1.lt) (m3'.below hb1 m3.lt)
      have hc0 : V.cell? ⟨G, 0, none⟩ = some (.string s) := m0.cell 0
      have hc2 : V.cell? ⟨G + 1 + 1, 2, none⟩ = some v := m2.cell 2
      have hc0' : V.drew.cell? ⟨G, 0, none⟩ = some (.string s) := hc0
      have hc2' : V.drew.cell? ⟨G + 1 + 1, 2, none⟩ = some v := hc2
      have hltV0 := m0.lt
      have hltV2 := m2.lt
      have hGV : G ≤ V.drew.heap.size := Nat.le_of_lt hltV0
      go_region_law (first
          | (refine step_calls (args := #[.int .i64 (s.size : Int), .func (.func 159) #[] #[.pointer (some ⟨G, 0, none⟩), .pointer (some ⟨G + 1, 0, none⟩), .pointer (some ⟨wr.heap.size, 0, none⟩)]]) rfl rfl enterBitOf (by simp [Act.eval, Act.put]) (bitOf_any s.size 159 #[.pointer (some ⟨G, 0, none⟩), .pointer (some ⟨G + 1, 0, none⟩), .pointer (some ⟨wr.heap.size, 0, none⟩)] (isLet s lt k) V.drew (by omega) enterFew hclos) ?_; rintro e w2 ⟨gw, ga, rfl, ⟨W, hrw, hbits⟩, hra, hgw, hga, hb2⟩; refine ⟨_, rfl, ?_⟩; have hd0 : w2.cell? ⟨G, 0, none⟩ = some (.string s) := (m0'.below hb2 hltV0).cell 0; have hd2 : w2.cell? ⟨G + 1 + 1, 2, none⟩ = some v := (m2'.below hb2 hltV2).cell 2; have hd4 : ∀ o, (w2.alloc o).cell? ⟨G + 1 + 1, 2, none⟩ = some v := fun o => ((m2'.below hb2 hltV2).alloc o).cell 2)
          | (refine step_append_own rfl (.tmp 21) (.tmp 26) 194 rfl G 70 i0 (.agg #[.int .i64 0, .slice none 0 0, .slice none 0 0]) 3 56 Tryz.underlying194 hi hz0 hz1 hz2 rfl (by decide) v k xs rfl (own_below3 (own_below3 hown1' hb2) ((Below.refl _ _).alloc (Nat.le_refl _) _)) ⟨w2.heap.size, 0, none⟩ 1 1 [.int .i64 (s.size : Int), .slice (some ⟨gw, 0, none⟩) (s.size / 64 + 1) (s.size / 64 + 1), .slice (some ⟨ga, 0, none⟩) (s.size / 64 + 1) (s.size / 64 + 1)] rfl rfl (cell_three_new w2 _ _ _ _) (by simp; exact ⟨rfl, rfl, rfl⟩) (by unfold maxLen; omega) (by omega) (by have := hb2.size; simp; omega) ?_; intro v' w3 hown3 hgr3; obtain ⟨g', cap', rfl⟩ := own_form hown3 (by omega); have hk3 := ((m2'.below hb2 hltV2).alloc (.cells #[.int .i64 (s.size : Int), .slice (some ⟨gw, 0, none⟩) (s.size / 64 + 1) (s.size / 64 + 1), .slice (some ⟨ga, 0, none⟩) (s.size / 64 + 1) (s.size / 64 + 1)] 70)).grown hgr3 (blk_ne_own (m2'.below hb2 hltV2) (own_below3 hown1' hb2) (by decide)); have hc3 : w3.cell? ⟨G + 1 + 1, 2, none⟩ = some v := hk3.cell 2; have hf3 := hk3.free 2))
      all_goals (go_wp2_with fail)
      all_goals
        have hbA := (Below.refl w2.heap.size w2).alloc (Nat.le_refl _) (.cells #[.int .i64 (s.size : Int), .slice (some ⟨gw, 0, none⟩) (s.size / 64 + 1) (s.size / 64 + 1), .slice (some ⟨ga, 0, none⟩) (s.size / 64 + 1) (s.size / 64 + 1)] 70)
        have hownA := own_below3 (own_below3 hown1' hb2) hbA
        have hq0 := ((m0'.below hb2 hltV0).alloc (.cells #[.int .i64 (s.size : Int), .slice (some ⟨gw, 0, none⟩) (s.size / 64 + 1) (s.size / 64 + 1), .slice (some ⟨ga, 0, none⟩) (s.size / 64 + 1) (s.size / 64 + 1)] 70)).grown hgr3 (blk_ne_own (m0'.below hb2 hltV0) (own_below3 hown1' hb2) (by decide))
        have hq1 := ((m1'.below hb2 m1.lt).alloc (.cells #[.int .i64 (s.size : Int), .slice (some ⟨gw, 0, none⟩) (s.size / 64 + 1) (s.size / 64 + 1), .slice (some ⟨ga, 0, none⟩) (s.size / 64 + 1) (s.size / 64 + 1)] 70)).grown hgr3 (blk_ne_own (m1'.below hb2 m1.lt) (own_below3 hown1' hb2) (by decide))
        have hbr' : BRs V.drew s lt k xs := hbr1
        have hbrA := (hbr'.below hb2).below hbA
        have hnewA : BR _ _ _ _ s.size (isLet s lt k) := BR.below ⟨gw, ga, W, rfl, rfl, rfl, hrw, hbits, hra⟩ hbA
        have hbr3 : BRs w3 s lt (k + 1) (xs ++ [.int .i64 (s.size : Int), .slice (some ⟨gw, 0, none⟩) (s.size / 64 + 1) (s.size / 64 + 1), .slice (some ⟨ga, 0, none⟩) (s.size / 64 + 1) (s.size / 64 + 1)]) := by
          refine BRs.snoc (fun j hj => ?_) HX.out (hnewA.grown hownA (by decide) (by decide) hgr3)
          obtain ⟨a', b', c', r1, r2, r3, r4⟩ := hbrA j hj
          exact ⟨a', b', c', r1, r2, r3, r4.grown hownA (by decide) (by decide) hgr3⟩
        have hbr4 : BRs (w3.setCell ⟨G + 1 + 1, 2, none⟩ (.slice (some ⟨g', 0, none⟩) (k + 1) cap')) s lt (k + 1) (xs ++ [.int .i64 (s.size : Int), .slice (some ⟨gw, 0, none⟩) (s.size / 64 + 1) (s.size / 64 + 1), .slice (some ⟨ga, 0, none⟩) (s.size / 64 + 1) (s.size / 64 + 1)]) := fun j hj => by
          obtain ⟨a', b', c', r1, r2, r3, r4⟩ := hbr3 j hj
          exact ⟨a', b', c', r1, r2, r3, r4.setBlk hk3 (by decide) (by decide) _ _⟩
        have hgw0 : w.heap.size ≤ G := by rw [HG.out]; exact Nat.le_refl _
        have hsV2 : V.drew.heap.size ≤ w2.heap.size := hb2.size
        have hb1' : Below G w V.drew := hb1.drew
        have hb3 : Below G w w3 := ((hb1'.trans (hb2.mono hGV)).alloc (Nat.le_trans hGV hsV2) _).grown hgr3 (by simp; omega) (fun g hg => (hownA.lt g hg).1)
      all_goals go_roundw
      all_goals first
        | exact ⟨k + 1, by omega, by go_num, hq0.setOther (by show G ≠ G + 1 + 1; omega) _, hq1.setOther (by show G + 1 ≠ G + 1 + 1; omega) _, ⟨_, _, hk3.set 2 _, own_setOther hown3 _ _ (blk_ne_own hk3 hown3 (by decide)), (by show (xs ++ [_, _, _]).length = 3 * (k + 1); rw [List.length_append, HX.out]; simp only [List.length_cons, List.length_nil]; omega), hbr4⟩, hb3.setCell (by show G ≤ G + 1 + 1; omega) _⟩
        | (simp [intOf]; omega)
    · have hkl : k = lt.size := by omega
      subst hkl
      go_wp2
      go_ret
      rw [HG.out] at hown hb
      exact ⟨G + 1 + 1, v, xs, rfl, k2, hown, hbr, hb⟩
end Go.Proofs.YtkebgnpifmcmaabGreat
