import Derived.Test.YtkebgnpifmcmaabGreatGD
import Derived.Test.YtkebgnpifmcmaabGreatGB
import Derived.Test.YtkebgnpifmcmaabGreatGE
import Derived.Test.YtkebgnpifmcmaabGreatGG
import Derived.Deep.QuietTactic
import Derived.BigQuiet
namespace Go.Proofs.YtkebgnpifmcmaabGreat
open Go.RowKit

/-- How many of the first numbers are c; how many are less. -/
def cntI (a : Nat → Int) (c : Int) : Nat → Nat
  | 0 => 0
  | m + 1 => cntI a c m + (if a m = c then 1 else 0)
def lessI (a : Nat → Int) (c : Int) : Nat → Nat
  | 0 => 0
  | m + 1 => lessI a c m + (if a m < c then 1 else 0)
theorem cntI_succ (a : Nat → Int) (c : Int) (m : Nat) : cntI a c (m + 1) = cntI a c m + (if a m = c then 1 else 0) := rfl
theorem lessI_succ (a : Nat → Int) (c : Int) (m : Nat) : lessI a c (m + 1) = lessI a c m + (if a m < c then 1 else 0) := rfl
theorem cntI_le (a : Nat → Int) (c : Int) (m : Nat) : cntI a c m ≤ m := by
  induction m with
  | zero => exact Nat.le_refl _
  | succ m ih => rw [cntI_succ]; split <;> omega
theorem lessI_le (a : Nat → Int) (c : Int) (m : Nat) : lessI a c m ≤ m := by
  induction m with
  | zero => exact Nat.le_refl _
  | succ m ih => rw [lessI_succ]; split <;> omega
theorem both_le (a : Nat → Int) (c : Int) (m : Nat) : cntI a c m + lessI a c m ≤ m := by
  induction m with
  | zero => exact Nat.le_refl _
  | succ m ih => rw [lessI_succ, cntI_succ]; split <;> split <;> omega
theorem cntI_mono (a : Nat → Int) (c : Int) {i m : Nat} (h : i ≤ m) : cntI a c i ≤ cntI a c m := by
  induction h with
  | refl => exact Nat.le_refl _
  | step _ ih => rw [cntI_succ]; omega
theorem lessI_mono (a : Nat → Int) (c : Int) {i m : Nat} (h : i ≤ m) : lessI a c i ≤ lessI a c m := by
  induction h with
  | refl => exact Nat.le_refl _
  | step _ ih => rw [lessI_succ]; omega
theorem both_mono (a : Nat → Int) (c : Int) {i m : Nat} (h : i ≤ m) : cntI a c m + lessI a c m + i ≤ cntI a c i + lessI a c i + m := by
  induction h with
  | refl => exact Nat.le_refl _
  | step _ ih => rw [cntI_succ, lessI_succ]; split <;> split <;> omega
theorem cntI_congr {a b : Nat → Int} {c : Int} {m : Nat} (h : ∀ i, i < m → a i = b i) : cntI a c m = cntI b c m ∧ lessI a c m = lessI b c m := by
  induction m with
  | zero => exact ⟨rfl, rfl⟩
  | succ m ih =>
    obtain ⟨i1, i2⟩ := ih (fun i hi => h i (by omega))
    rw [cntI_succ, cntI_succ, lessI_succ, lessI_succ, i1, i2, h m (by omega)]
    exact ⟨rfl, rfl⟩

theorem lessE_zero (b : Nat → Nat) (e c : Nat) : lessE b e c 0 = 0 := by rw [lessE_neg (by omega)]; rfl
theorem idx_next_end (e : Nat) : idx e (e + 1) = e ∧ idx e e = e := by unfold idx; constructor <;> split <;> omega
theorem idx_next {e r : Nat} (h : r ≠ e) : idx e (r + 1) = idx e r + 1 := by unfold idx; split <;> split <;> omega

/-- What a side counts is what stands ahead of the rows. -/
theorem rank_side {t : List UInt8} {f : Nat → Nat} (F : IsSA t f) (c : Nat) : ∀ row, row ≤ t.length + 1 →
    cnt (bN (pre t f (t.length + 1))) c (idx (endOf f (t.length + 1)) row) = cntI (aheadV t f) (c : Int) row ∧
    lessE (bN (pre t f (t.length + 1))) (endOf f (t.length + 1)) c row = lessI (aheadV t f) (c : Int) row := by
  intro row
  induction row with
  | zero =>
    intro _
    exact ⟨by rw [show idx (endOf f (t.length + 1)) 0 = 0 from by unfold idx; split <;> omega]; rfl, lessE_zero _ _ _⟩
  | succ row ih =>
    intro hr
    obtain ⟨i1, i2⟩ := ih (by omega)
    have hz := sa_zero F row (by omega)
    by_cases he : row = endOf f (t.length + 1)
    · have hf := hz.2 he
      rw [← he] at i1 i2 ⊢
      obtain ⟨e1, e2⟩ := idx_next_end row
      rw [e2] at i1
      rw [lessE_neg (by omega)] at i2
      rw [e1, i1, cntI_succ, lessI_succ, aheadV_zero hf, if_neg (by omega), if_pos (by omega), ← i2, lessE_pos (by omega)]
      exact ⟨rfl, rfl⟩
    · have hf : f row ≠ 0 := fun h => he (hz.1 h)
      have hb : bN (pre t f (t.length + 1)) (idx (endOf f (t.length + 1)) row) = (t.getD (f row - 1) 0).toNat := by
        unfold bN; rw [bwt_get F row (by omega) he]
      rw [cntI_succ, lessI_succ, aheadV_pos hf, ← i1, ← i2]
      constructor
      · rw [idx_next he, cnt_succ, hb]
        congr 1
        by_cases hc : (t.getD (f row - 1) 0).toNat = c
        · rw [if_pos hc, if_pos (by omega)]
        · rw [if_neg hc, if_neg (by omega)]
      · unfold lessE
        rw [idx_next he]
        have hs : ∀ b : Nat → Nat, ∀ x m, less b x (m + 1) = less b x m + (if b m < x then 1 else 0) := fun b x m => rfl
        rw [hs, hb]
        have hq : (if (t.getD (f row - 1) 0).toNat < c then 1 else 0) = (if ((t.getD (f row - 1) 0).toNat : Int) < (c : Int) then 1 else 0) := by
          by_cases hc : (t.getD (f row - 1) 0).toNat < c
          · rw [if_pos hc, if_pos (by omega)]
          · rw [if_neg hc, if_neg (by omega)]
        rw [hq]
        have hw : (if endOf f (t.length + 1) < row + 1 then 1 else 0) = (if endOf f (t.length + 1) < row then 1 else 0) := by
          by_cases hlt : endOf f (t.length + 1) < row
          · rw [if_pos hlt, if_pos (by omega)]
          · rw [if_neg hlt, if_neg (by omega)]
        rw [hw]
        omega

/-- The same of a side's bytes as a string. -/
theorem rank_str {t : List UInt8} {f : Nat → Nat} (F : IsSA t f) {s : ByteArray} {e : Nat} (hs : s = bs (pre t f (t.length + 1))) (he : e = endOf f (t.length + 1)) (c row : Nat) (hr : row ≤ t.length + 1) :
    cnt (byN s) c (idx e row) = cntI (aheadV t f) (c : Int) row ∧ lessE (byN s) e c row = lessI (aheadV t f) (c : Int) row := by
  subst hs he
  have hl := bwt_length F
  have hx : idx (endOf f (t.length + 1)) row ≤ t.length := by
    have := (sa_end F).1
    unfold idx; split <;> omega
  have hcg : ∀ x, cnt (byN (bs (pre t f (t.length + 1)))) x (idx (endOf f (t.length + 1)) row) = cnt (bN (pre t f (t.length + 1))) x (idx (endOf f (t.length + 1)) row) := fun x =>
    cnt_congr (fun i hi => by rw [byN_tx _ _ (by rw [bs_size, hl]; omega), tx_bs]) x
  obtain ⟨h1, h2⟩ := rank_side F c row hr
  refine ⟨by rw [hcg, h1], ?_⟩
  rw [← h2]
  unfold lessE
  rw [less_of_cnt hcg]

/-- How many suffixes go ahead of those that begin with c. -/
def firstOf (t : List UInt8) (c : Nat) : Nat := 1 + less (bN t) c t.length
theorem first_str {t : List UInt8} {f : Nat → Nat} (F : IsSA t f) {s : ByteArray} (hs : s = bs (pre t f (t.length + 1))) (c : Nat) : s.size = t.length ∧ 1 + less (byN s) c s.size = firstOf t c := by
  subst hs
  have hl := bwt_length F
  have hsz : (bs (pre t f (t.length + 1))).size = t.length := by rw [bs_size, hl]
  refine ⟨hsz, ?_⟩
  rw [hsz, firstOf]
  congr 1
  refine less_of_cnt (fun x => ?_) c
  rw [← bwt_cnt F x]
  exact cnt_congr (fun i hi => by rw [byN_tx _ _ (by rw [hsz]; omega), tx_bs]) x
theorem firstOf_le (t : List UInt8) (c : Nat) : firstOf t c ≤ t.length + 1 := by
  have := less_le (bN t) c t.length
  unfold firstOf; omega

/-- An interval moved by a byte to the left; and how many of its rows have less ahead of them. -/
def mvL (t : List UInt8) (f : Nat → Nat) (c row : Nat) : Nat := firstOf t c + cntI (aheadV t f) (c : Int) row
def mvP (t : List UInt8) (f : Nat → Nat) (c lo hi : Nat) : Nat := lessI (aheadV t f) (c : Int) hi - lessI (aheadV t f) (c : Int) lo
theorem mvL_mono (t : List UInt8) (f : Nat → Nat) (c : Nat) {i m : Nat} (h : i ≤ m) : mvL t f c i ≤ mvL t f c m := Nat.add_le_add_left (cntI_mono _ _ h) _
theorem mv_le (t : List UInt8) (f : Nat → Nat) (c : Nat) {i m : Nat} (h : i ≤ m) : mvL t f c m + mvP t f c i m + i ≤ mvL t f c i + m := by
  have := both_mono (aheadV t f) (c : Int) h
  have := lessI_mono (aheadV t f) (c : Int) h
  unfold mvL mvP; omega
theorem mv_congr {t : List UInt8} {f f' : Nat → Nat} (F : IsSA t f) (F' : IsSA t f') (c : Nat) : (∀ r, r ≤ t.length + 1 → cntI (aheadV t f) (c : Int) r = cntI (aheadV t f') (c : Int) r ∧ lessI (aheadV t f) (c : Int) r = lessI (aheadV t f') (c : Int) r) := fun r hr =>
  cntI_congr (fun i hi => by unfold aheadV; rw [F.unique F' i (by omega)])
end Go.Proofs.YtkebgnpifmcmaabGreat

namespace Go.Proofs.YtkebgnpifmcmaabGreat
open Go.RowKit

set_option maxRecDepth 10000 in
set_option maxHeartbeats 400000 in
theorem counted_any (g n cap lo hi c : Nat) (a : Nat → Int) (w : World) (hr : Row w g 3 n (II a)) (hl : lo ≤ hi) (hh : hi ≤ n) (hn : n ≤ 3000) (_hc : c < 256) :
    Calls Tryz.prog 106 #[.slice (some ⟨g, 0, none⟩) n cap, .int .i64 (c : Int), .int .i64 (lo : Int), .int .i64 (hi : Int)] w fun e w' => e = .returned (.tuple #[.int .i64 ((cntI a c hi - cntI a c lo : Nat) : Int), .int .i64 ((lessI a c hi - lessI a c lo : Nat) : Int)]) ∧ w' = w := by
  go_enter Tryz.func106, Tryz.ntmps106
  go_wp2_with fail
  go_loopw [10, 11, 12] (fun s l i wr => ∃ k : Nat, lo ≤ k ∧ k ≤ hi ∧ i = .int .i64 (k : Int) ∧ s = .int .i64 ((cntI a c k - cntI a c lo : Nat) : Int) ∧ l = .int .i64 ((lessI a c k - lessI a c lo : Nat) : Int) ∧ wr = w) (fun _ _ i _ => hi - (intOf i).toNat)
  case atStart => exact ⟨lo, Nat.le_refl _, hl, rfl, by rw [Nat.sub_self]; rfl, by rw [Nat.sub_self]; rfl, rfl⟩
  case round =>
    obtain ⟨k, hlk, hk, rfl, rfl, rfl, rfl⟩ := hrel
    by_cases hlt : k < hi
    · have hcf := hr.cell (show k < n by omega)
      rw [II_at] at hcf
      have m1 := cntI_mono a c hlk
      have m2 := lessI_mono a c hlk
      have l1 := cntI_le a c k
      have l2 := lessI_le a c k
      have HS1 := cntI_succ a c k
      have HS2 := lessI_succ a c k
      by_cases h1 : a k = (c : Int)
      · rw [if_pos h1] at HS1
        rw [if_neg (by omega)] at HS2
        have N1 : Hid ((cntI a c (k + 1) - cntI a c lo : Nat) = (cntI a c k - cntI a c lo) + 1) := by show _ = _; omega
        have N2 : Hid ((lessI a c (k + 1) - lessI a c lo : Nat) = (lessI a c k - lessI a c lo)) := by show _ = _; omega
        rw [h1] at hcf
        clear HS1 HS2 h1
        go_wp2
        go_roundw
        case rel => exact ⟨k + 1, by omega, by omega, by go_num, by rw [N1.out]; go_num, by rw [N2.out], trivial⟩
        case measure => simp [intOf]; omega
      · rw [if_neg h1] at HS1
        have N1 : Hid ((cntI a c (k + 1) - cntI a c lo : Nat) = (cntI a c k - cntI a c lo)) := by show _ = _; omega
        have hb1 : (a k == (c : Int)) = false := by simpa using h1
        by_cases h2 : a k < (c : Int)
        · rw [if_pos h2] at HS2
          have N2 : Hid ((lessI a c (k + 1) - lessI a c lo : Nat) = (lessI a c k - lessI a c lo) + 1) := by show _ = _; omega
          have hb2 : decide (a k < (c : Int)) = true := by simpa using h2
          clear HS1 HS2
          go_wp2
          go_roundw
          case rel => exact ⟨k + 1, by omega, by omega, by go_num, by rw [N1.out], by rw [N2.out]; go_num, trivial⟩
          case measure => simp [intOf]; omega
        · rw [if_neg h2] at HS2
          have N2 : Hid ((lessI a c (k + 1) - lessI a c lo : Nat) = (lessI a c k - lessI a c lo)) := by show _ = _; omega
          have hb2 : decide (a k < (c : Int)) = false := by simpa using h2
          clear HS1 HS2
          go_wp2
          go_roundw
          case rel => exact ⟨k + 1, by omega, by omega, by go_num, by rw [N1.out], by rw [N2.out], trivial⟩
          case measure => simp [intOf]; omega
    · have hkn : k = hi := by omega
      subst hkn
      go_wp2
      go_ret2
      exact ⟨rfl, rfl⟩

set_option maxRecDepth 10000 in
set_option maxHeartbeats 400000 in
theorem refRank_bad (s : ByteArray) (c row : Int) (w : World) (hn : s.size ≤ 2000) (h : ¬ (0 ≤ c ∧ c ≤ 255 ∧ 0 ≤ row ∧ row ≤ (s.size : Int) + 1)) :
    Calls Tryz.prog 75 #[.string s, .int .i64 c, .int .i64 row] w fun e w' => e = .returned (.tuple #[.int .i64 0, .int .i64 0, .int .i64 5]) ∧ w' = w := by
  have hq : (decide (c < 0) || decide (255 < c) || decide (row < 0) || decide ((s.size : Int) + 1 < row)) = true := by
    simp only [Bool.or_eq_true, decide_eq_true_eq]; omega
  by_cases h1 : c < 0
  · have d1 : decide (c < 0) = true := by simpa using h1
    go_enter Tryz.func75, Tryz.ntmps75
    go_wp2
    go_ret3
    exact ⟨rfl, rfl⟩
  · have d1 : decide (c < 0) = false := by simpa using h1
    by_cases h2 : 255 < c
    · have d2 : decide (255 < c) = true := by simpa using h2
      go_enter Tryz.func75, Tryz.ntmps75
      go_wp2
      go_ret3
      exact ⟨rfl, rfl⟩
    · have d2 : decide (255 < c) = false := by simpa using h2
      by_cases h3 : row < 0
      · have d3 : decide (row < 0) = true := by simpa using h3
        go_enter Tryz.func75, Tryz.ntmps75
        go_wp2
        go_ret3
        exact ⟨rfl, rfl⟩
      · have d3 : decide (row < 0) = false := by simpa using h3
        have d4 : decide ((s.size : Int) + 1 < row) = true := by simp only [decide_eq_true_eq]; omega
        go_enter Tryz.func75, Tryz.ntmps75
        go_wp2
        go_ret3
        exact ⟨rfl, rfl⟩

set_option maxRecDepth 10000 in
set_option maxHeartbeats 400000 in
theorem refRank_ok (s : ByteArray) (c row : Nat) (w : World) (hn : s.size ≤ 2000) (hc : c < 256) (hrow : row ≤ s.size + 1) :
    Calls Tryz.prog 75 #[.string s, .int .i64 (c : Int), .int .i64 (row : Int)] w fun e w' => ∃ f, IsSA (tx s) f ∧ e = .returned (.tuple #[.int .i64 ((cntI (aheadV (tx s) f) c row : Nat) : Int), .int .i64 ((lessI (aheadV (tx s) f) c row : Nat) : Int), .int .i64 0]) ∧ Below w.heap.size w w' := by
  have d2 : ¬ (255 : Int) < (c : Int) := by omega
  have d4 : ¬ ((s.size : Int) + 1 < (row : Int)) := by omega
  go_enter Tryz.func75, Tryz.ntmps75
  go_wp2_with fail
  refine (ahead_any s _ hn).mono ?_
  rintro e w1 ⟨f, g, cap, hsa, rfl, hg, hr, hb1⟩
  have HSA : Hid (IsSA (tx s) f) := hsa
  have HC : Hid _ := counted_any g (s.size + 1) cap 0 row c (aheadV (tx s) f) w1 hr (Nat.zero_le _) hrow (by omega) hc
  clear hsa hr
  go_wp2_with fail
  refine Calls.mono HC.out ?_
  rintro e w2 ⟨rfl, rfl⟩
  clear HC
  go_wp2
  go_ret3
  exact ⟨f, HSA.out, rfl, hb1⟩
end Go.Proofs.YtkebgnpifmcmaabGreat

namespace Go.Proofs.YtkebgnpifmcmaabGreat
open Go.RowKit

/-- A pair of a text of n bytes, one of a pattern or not. -/
def PairOk (n : Nat) (lo hi bk : Int) : Prop := 0 ≤ lo ∧ lo ≤ hi ∧ hi ≤ (n : Int) + 1 ∧ 0 ≤ bk ∧ bk ≤ (n : Int) + 1 - (hi - lo)
theorem PairOk.nat {n : Nat} {lo hi bk : Int} (h : PairOk n lo hi bk) : ∃ l u b : Nat, lo = (l : Int) ∧ hi = (u : Int) ∧ bk = (b : Int) ∧ l ≤ u ∧ u ≤ n + 1 ∧ b + (u - l) ≤ n + 1 := by
  obtain ⟨h1, h2, h3, h4, h5⟩ := h
  exact ⟨lo.toNat, hi.toNat, bk.toNat, by omega, by omega, by omega, by omega, by omega, by omega⟩
theorem pairOk_nat {n l u b : Nat} (h1 : l ≤ u) (h2 : u ≤ n + 1) (h3 : b + (u - l) ≤ n + 1) : PairOk n (l : Int) (u : Int) (b : Int) := by
  unfold PairOk; omega

def IsPRes (n : Nat) (lo hi bk : Int) (w : World) (e : Ending) (w' : World) : Prop := ((PairOk n lo hi bk ∧ e = .returned (.bool true)) ∨ (¬ PairOk n lo hi bk ∧ e = .returned (.bool false))) ∧ Below w.heap.size w w'

set_option maxRecDepth 10000 in
set_option maxHeartbeats 1000000 in
theorem refIsPair_any (s : ByteArray) (lo hi bk : Int) (w : World) (hn : s.size ≤ 2000) :
    Calls Tryz.prog 107 #[.string s, .agg #[.int .i64 lo, .int .i64 hi, .int .i64 bk]] w (IsPRes s.size lo hi bk w) := by
  have hb : Below w.heap.size w (w.alloc (.cells #[.int .i64 lo, .int .i64 hi, .int .i64 bk] 47)) := (Below.refl _ _).alloc (Nat.le_refl _) _
  by_cases h1 : 0 ≤ lo
  · have d1 : decide (0 ≤ lo) = true := by simpa using h1
    by_cases h2 : lo ≤ hi
    · have d2 : decide (lo ≤ hi) = true := by simpa using h2
      by_cases h3 : hi ≤ (s.size : Int) + 1
      · have d3 : decide (hi ≤ (s.size : Int) + 1) = true := by simpa using h3
        by_cases h4 : 0 ≤ bk
        · have d4 : decide (0 ≤ bk) = true := by simpa using h4
          by_cases h5 : bk ≤ (s.size : Int) + 1 - (hi - lo)
          · have d5 : decide (bk ≤ (s.size : Int) + 1 - (hi - lo)) = true := by simpa using h5
            have HP : Hid (PairOk s.size lo hi bk) := ⟨h1, h2, h3, h4, h5⟩
            go_enter Tryz.func107, Tryz.ntmps107
            go_wp2
            go_ret
            exact ⟨.inl ⟨HP.out, rfl⟩, hb⟩
          · have d5 : decide (bk ≤ (s.size : Int) + 1 - (hi - lo)) = false := by simpa using h5
            have HP : Hid (¬ PairOk s.size lo hi bk) := fun h => absurd h.2.2.2.2 h5
            go_enter Tryz.func107, Tryz.ntmps107
            go_wp2
            go_ret
            exact ⟨.inr ⟨HP.out, rfl⟩, hb⟩
        · have d4 : decide (0 ≤ bk) = false := by simpa using h4
          have HP : Hid (¬ PairOk s.size lo hi bk) := fun h => absurd h.2.2.2.1 h4
          go_enter Tryz.func107, Tryz.ntmps107
          go_wp2
          go_ret
          exact ⟨.inr ⟨HP.out, rfl⟩, hb⟩
      · have d3 : decide (hi ≤ (s.size : Int) + 1) = false := by simpa using h3
        have HP : Hid (¬ PairOk s.size lo hi bk) := fun h => absurd h.2.2.1 h3
        go_enter Tryz.func107, Tryz.ntmps107
        go_wp2
        go_ret
        exact ⟨.inr ⟨HP.out, rfl⟩, hb⟩
    · have d2 : decide (lo ≤ hi) = false := by simpa using h2
      have HP : Hid (¬ PairOk s.size lo hi bk) := fun h => absurd h.2.1 h2
      go_enter Tryz.func107, Tryz.ntmps107
      go_wp2
      go_ret
      exact ⟨.inr ⟨HP.out, rfl⟩, hb⟩
  · have d1 : decide (0 ≤ lo) = false := by simpa using h1
    have HP : Hid (¬ PairOk s.size lo hi bk) := fun h => absurd h.1 h1
    go_enter Tryz.func107, Tryz.ntmps107
    go_wp2
    go_ret
    exact ⟨.inr ⟨HP.out, rfl⟩, hb⟩

set_option maxRecDepth 10000 in
set_option maxHeartbeats 1000000 in
theorem moved_any (s : ByteArray) (lo hi c : Nat) (w : World) (hn : s.size ≤ 2000) (hl : lo ≤ hi) (hh : hi ≤ s.size + 1) (hc : c < 256) :
    Calls Tryz.prog 108 #[.string s, .int .i64 (lo : Int), .int .i64 (hi : Int), .int .i64 (c : Int)] w fun e w' => ∃ f, IsSA (tx s) f ∧ e = .returned (.tuple #[.int .i64 ((mvL (tx s) f c lo : Nat) : Int), .int .i64 ((mvL (tx s) f c hi : Nat) : Int), .int .i64 ((mvP (tx s) f c lo hi : Nat) : Int)]) ∧ Below w.heap.size w w' := by
  have HF : Hid (1 + less (byN s) c s.size = firstOf (tx s) c) := by
    show 1 + less (byN s) c s.size = firstOf (tx s) c
    unfold firstOf
    rw [tx_length]
    congr 1
    exact less_of_cnt (cnt_congr (fun i hi => byN_tx s i hi)) c
  have hfl := firstOf_le (tx s) c
  rw [tx_length] at hfl
  have HA : Hid _ := ahead_any s w hn
  go_enter Tryz.func108, Tryz.ntmps108
  go_wp2_with fail
  go_loopw [11, 12] (fun v i wr => ∃ k : Nat, k ≤ s.size ∧ i = .int .i64 (k : Int) ∧ v = .int .i64 ((1 + less (byN s) c k : Nat) : Int) ∧ wr = w) (fun _ i _ => s.size - (intOf i).toNat)
  case atStart => exact ⟨0, Nat.zero_le _, rfl, rfl, rfl⟩
  case round =>
    obtain ⟨k, hk, rfl, rfl, rfl⟩ := hrel
    by_cases hlt : k < s.size
    · have hby := byN_lt s k hlt
      have hlb := (s[k]).toNat_lt
      have hw := wrap64_byte s[k]
      have hll := less_le (byN s) c k
      have HS : less (byN s) c (k + 1) = less (byN s) c k + (if byN s k < c then 1 else 0) := rfl
      rw [hby] at HS
      clear HF HA
      by_cases h1 : (s[k]).toNat < c
      · rw [if_pos h1] at HS
        have N1 : Hid ((1 + less (byN s) c (k + 1) : Nat) = 1 + less (byN s) c k + 1) := by show _ = _; omega
        have d1 : decide (((s[k]).toNat : Int) < (c : Int)) = true := by simp only [decide_eq_true_eq]; omega
        clear HS
        go_wp2
        go_roundw
        case rel => exact ⟨k + 1, by omega, by go_num, by rw [N1.out]; go_num, trivial⟩
        case measure => simp [intOf]; omega
      · rw [if_neg h1] at HS
        have N1 : Hid ((1 + less (byN s) c (k + 1) : Nat) = 1 + less (byN s) c k) := by show _ = _; omega
        have d1 : decide (((s[k]).toNat : Int) < (c : Int)) = false := by simp only [decide_eq_false_iff_not]; omega
        clear HS
        go_wp2
        go_roundw
        case rel => exact ⟨k + 1, by omega, by go_num, by rw [N1.out], trivial⟩
        case measure => simp [intOf]; omega
    · have hkn : k = s.size := by omega
      subst hkn
      rw [HF.out]
      generalize hX : firstOf (tx s) c = X at *
      have HX : Hid (firstOf (tx s) c = X) := hX
      clear hX HF
      go_wp2_with fail
      refine Calls.mono HA.out ?_
      rintro e w1 ⟨f, g, cap, hsa, rfl, hg, hr, hb1⟩
      clear HA
      have HSA : Hid (IsSA (tx s) f) := hsa
      have HC : Hid (∀ lo hi, lo ≤ hi → hi ≤ s.size + 1 → Calls Tryz.prog 106 #[.slice (some ⟨g, 0, none⟩) (s.size + 1) cap, .int .i64 (c : Int), .int .i64 ((lo : Nat) : Int), .int .i64 ((hi : Nat) : Int)] w1 fun e w' => e = .returned (.tuple #[.int .i64 ((cntI (aheadV (tx s) f) c hi - cntI (aheadV (tx s) f) c lo : Nat) : Int), .int .i64 ((lessI (aheadV (tx s) f) c hi - lessI (aheadV (tx s) f) c lo : Nat) : Int)]) ∧ w' = w1) := fun lo hi h1 h2 => counted_any g (s.size + 1) cap lo hi c (aheadV (tx s) f) w1 hr h1 h2 (by omega) hc
      have l1 := cntI_le (aheadV (tx s) f) (c : Int) lo
      have l2 := cntI_le (aheadV (tx s) f) (c : Int) hi
      have HL : Hid (mvL (tx s) f c lo = X + (cntI (aheadV (tx s) f) c lo - 0) ∧ mvL (tx s) f c hi = X + (cntI (aheadV (tx s) f) c hi - 0)) := by
        show _ ∧ _
        unfold mvL; rw [HX.out]; exact ⟨rfl, rfl⟩
      have HPP : Hid (mvP (tx s) f c lo hi = lessI (aheadV (tx s) f) c hi - lessI (aheadV (tx s) f) c lo) := rfl
      clear hsa hr HX
      go_wp2_with fail
      refine Calls.mono (HC.out 0 lo (by omega) (by omega)) ?_
      rintro e w2 ⟨rfl, rfl⟩
      go_wp2_with fail
      refine Calls.mono (HC.out 0 hi (by omega) (by omega)) ?_
      rintro e w3 ⟨rfl, rfl⟩
      go_wp2_with fail
      refine Calls.mono (HC.out lo hi (by omega) (by omega)) ?_
      rintro e w4 ⟨rfl, rfl⟩
      clear HC
      simp only [cntI, Nat.sub_zero] at l1 l2 HL ⊢
      go_wp2
      go_ret3
      exact ⟨f, HSA.out, by rw [HL.out.1, HL.out.2, HPP.out]; simp, hb1⟩

set_option maxRecDepth 10000 in
set_option maxHeartbeats 1000000 in
theorem backwards_any (s : ByteArray) (w : World) (hn : s.size ≤ 2000) :
    Calls Tryz.prog 109 #[.string s] w fun e w' => e = .returned (.string (revS s)) ∧ Below w.heap.size w w' := by
  obtain ⟨i0, hi, hz0, hz1, hz2⟩ := info_parts Tryz.info5
  have hrevN : ∀ k (hk : k < s.size), (tx s).reverse.take (s.size - k) = (tx s).reverse.take (s.size - (k + 1)) ++ [s[k]] := by
    intro k hk
    have e1 : s.size - k = (s.size - (k + 1)) + 1 := by omega
    have hl : s.size - (k + 1) < (tx s).reverse.length := by rw [List.length_reverse, tx_length]; omega
    rw [e1, List.take_succ_eq_append_getElem hl]
    congr 2
    rw [List.getElem_reverse]
    have e2 : (tx s).length - 1 - (s.size - (k + 1)) = k := by rw [tx_length]; omega
    simp only [e2]
    exact tx_get s k hk (by rw [tx_length]; exact hk)
  have HREV : Hid _ := hrevN
  clear hrevN
  go_enter Tryz.func109, Tryz.ntmps109
  go_wp2_with (at_make; refine wpList_make_own _ rfl _ _ 75 rfl w.heap.size 5 i0 (.int .u8 0) 1 Tryz.underlying75 hi hz0 hz1 .i64 .i64 _ s.size rfl rfl (by omega) (by rw [hz2]; omega) (by unfold maxLen; omega) (by omega) ?_; intro w2 hown hgr)
  have hb2 : Below w.heap.size w w2 := (Below.refl _ _).grown hgr (Nat.le_refl _) (fun _ h => by cases h)
  clear hgr
  have H0 : Hid (w2.ownsRow w.heap.size 5 1 (.slice (some ⟨w.heap.size, 0, none⟩) 0 s.size) 0 []) := hown
  clear hown
  go_loopw [3, 4] (fun v i wr => ∃ k : Nat, k ≤ s.size ∧ i = .int .i64 ((k : Int) - 1) ∧ wr.ownsRow w.heap.size 5 1 v ((tx s).reverse.take (s.size - k)).length (BL ((tx s).reverse.take (s.size - k))) ∧ Below w.heap.size w wr) (fun _ i _ => ((intOf i) + 1).toNat)
  case atStart => exact ⟨s.size, Nat.le_refl _, rfl, by rw [Nat.sub_self]; exact H0.out, hb2⟩
  case round =>
    clear hb2 H0
    obtain ⟨k, hk, rfl, hown, hb⟩ := hrel
    cases k with
    | zero =>
      have HT : Hid ((tx s).reverse.take (s.size - 0) = (tx s).reverse) := List.take_of_length_le (by rw [List.length_reverse, tx_length]; omega)
      rw [HT.out] at hown
      have hcv := conv_own hown
      clear HT HREV
      have d1 : decide ((0 : Int) ≤ ((0 : Nat) : Int) - 1) = false := by decide
      go_wp2
      go_ret
      exact ⟨rfl, hb⟩
    | succ k =>
      have hidx : k < s.size := by omega
      have HR : Hid ((tx s).reverse.take (s.size - k) = (tx s).reverse.take (s.size - (k + 1)) ++ [s[k]]) := HREV.out k hidx
      have e0 : (((k + 1 : Nat) : Int) - 1) = (k : Int) := by omega
      rw [e0]
      have hpl : ((tx s).reverse.take (s.size - (k + 1))).length ≤ 2000 := by rw [List.length_take]; omega
      have hby := (s[k]).toNat_lt
      generalize hL : (tx s).reverse.take (s.size - (k + 1)) = L at *
      clear hL HREV e0
      have hsz := hb.size
      go_wp2_with (at_builtin; refine wpList_append_own _ rfl (.tmp 15) (.tmp 19) 75 rfl w.heap.size 5 i0 (.int .u8 0) 1 1 Tryz.underlying75 hi hz0 hz1 hz2 rfl (by decide) u3 L.length _ rfl (hown.alloc _) ⟨wr.heap.size, 0, none⟩ 1 1 [.int .u8 ((s[k]).toNat : Int)] rfl rfl (cell_one_new _ _ _) (by simp; rfl) (by unfold maxLen; omega) (by omega) (by simp; omega) ?_; intro v' w1 hown1 hgr1 _)
      have hb1 : Below w.heap.size w w1 := (hb.alloc hsz _).grown hgr1 (by simp; omega) (fun k hk => (hown.lt k hk).1)
      rw [BL_snoc] at hown1
      have hown1' : w1.ownsRow w.heap.size 5 1 v' (L ++ [s[k]]).length (BL (L ++ [s[k]])) := by
        rw [List.length_append]; exact hown1
      go_roundw
      case rel => exact ⟨k, by omega, by go_num, by rw [HR.out]; exact hown1', hb1⟩
      case measure => simp [intOf]
end Go.Proofs.YtkebgnpifmcmaabGreat

namespace Go.Proofs.YtkebgnpifmcmaabGreat
open Go.RowKit

/-- The text and the rate that an image tells. -/
def imT (im : ByteArray) : List UInt8 := backText (tx (iS im 1)) (iE im 1)
def imR (im : ByteArray) : Nat := mRate (rBody im 0)

/-- An index of a text, in memory. -/
def IxT (w : World) (g : Nat) (t : List UInt8) (rate : Nat) (f f2 : Nat → Nat) : Prop :=
  IsSA t f ∧ IsSA t.reverse f2 ∧ t.length ≤ 2000 ∧ 1 ≤ rate ∧ rate ≤ 64 ∧ IndexQ w g (bs (pre t f (t.length + 1))) (endOf f (t.length + 1)) (bs (pre t.reverse f2 (t.length + 1))) (endOf f2 (t.length + 1)) rate f
theorem IxT.below {w w' : World} {g : Nat} {t : List UInt8} {rate : Nat} {f f2 : Nat → Nat} (h : IxT w g t rate f f2) (hb : Below w.heap.size w w') : IxT w' g t rate f f2 :=
  ⟨h.1, h.2.1, h.2.2.1, h.2.2.2.1, h.2.2.2.2.1, h.2.2.2.2.2.below hb⟩

/-- A side of a text, in memory. -/
def SideT (w : World) (g off : Nat) (t : List UInt8) (f : Nat → Nat) : Prop := IsSA t f ∧ t.length ≤ 2000 ∧ SideP w g off (bs (pre t f (t.length + 1))) (endOf f (t.length + 1))
theorem SideT.below {w w' : World} {g off : Nat} {t : List UInt8} {f : Nat → Nat} (h : SideT w g off t f) (hb : Below w.heap.size w w') : SideT w' g off t f := ⟨h.1, h.2.1, h.2.2.below hb⟩
theorem IxT.side {w : World} {g : Nat} {t : List UInt8} {rate : Nat} {f f2 : Nat → Nat} (h : IxT w g t rate f f2) : SideT w g 0 t f := by
  obtain ⟨h1, h2, h3, h4, h5, c1, c2, m0, m1, m2, pl, base, hk, hC1, _⟩ := h
  exact ⟨h1, h3, c1, hk.cell 0, hk.cell 1, hk.lt, hC1⟩
theorem IxT.back {w : World} {g : Nat} {t : List UInt8} {rate : Nat} {f f2 : Nat → Nat} (h : IxT w g t rate f f2) : SideT w g 2 t.reverse f2 := by
  obtain ⟨h1, h2, h3, h4, h5, c1, c2, m0, m1, m2, pl, base, hk, hC1, hC2, _⟩ := h
  refine ⟨h2, by rw [List.length_reverse]; exact h3, c2, hk.cell 2, ?_, hk.lt, ?_⟩
  · rw [List.length_reverse]; exact hk.cell 3
  · rw [List.length_reverse]; exact hC2

theorem index_txt (im : ByteArray) (w : World) : Calls Tryz.prog 58 #[.string im] w fun e w' =>
    ((Reads im ∧ ∃ g f f2, e = .returned (.tuple #[.pointer (some ⟨g, 0, none⟩), .bool true]) ∧ IxT w' g (imT im) (imR im) f f2) ∨ (¬ Reads im ∧ e = .returned (.tuple #[.pointer none, .bool false]))) ∧ Below w.heap.size w w' := by
  refine (index_any im w).mono ?_
  rintro e w' ⟨hres, hb⟩
  refine ⟨?_, hb⟩
  rcases hres with ⟨hR, g, f, hf, rfl, hQ⟩ | h
  · refine .inl ⟨hR, g, f, ?_⟩
    obtain ⟨_, hlen, hr1, hr2⟩ := reads_isImg hR w
    obtain ⟨⟨_, _, hm, hs1, hs2⟩, ⟨⟨he1, ho1⟩, ⟨he2, ho2⟩, hrev⟩, hsame⟩ := hR
    have z1 : (iS im 1).size = mSize (rBody im 0) := sText_size _ _ hs1
    have z2 : (iS im 2).size = mSize (rBody im 0) := sText_size _ _ hs2
    have l1 : (imT im).length = mSize (rBody im 0) := by rw [imT, backText_length, tx_length, z1]
    obtain ⟨f2, F2⟩ := sa_exists (bs (backText (tx (iS im 2)) (iE im 2))) w (by rw [bs_size, backText_length, tx_length, z2]; exact hm.2.1)
    rw [tx_bs] at F2
    have t1 := back_transform (by rw [tx_length]; exact he1) ho1 hf
    have t2 := back_transform (by rw [tx_length]; exact he2) ho2 F2
    rw [hrev] at F2 t2
    rw [tx_length, z1] at t1
    rw [tx_length, z2] at t2
    refine ⟨f2, rfl, hf, F2, hlen, hr1, hr2, ?_⟩
    rw [l1]
    rw [show imT im = backText (tx (iS im 1)) (iE im 1) from rfl, t1.1, t1.2, t2.1, t2.2, bs_tx, bs_tx]
    exact hQ
  · exact .inr h

theorem side_rowsT {w : World} {g off : Nat} {t : List UInt8} {f : Nat → Nat} (h : SideT w g off t f) : Calls Tryz.prog 59 #[.pointer (some ⟨g, off, none⟩)] w fun en w' => en = .returned (.int .i64 ((t.length + 1 : Nat) : Int)) ∧ w' = w := by
  obtain ⟨F, hn, h⟩ := h
  have hs := (first_str F rfl 0).1
  have := side_rows w g off _ _ h (by rw [hs]; exact hn)
  rw [hs] at this
  exact this
theorem side_rankT {w : World} {g off : Nat} {t : List UInt8} {f : Nat → Nat} (h : SideT w g off t f) (c row : Nat) (hc : c < 256) (hr : row ≤ t.length + 1) :
    Calls Tryz.prog 95 #[.pointer (some ⟨g, off, none⟩), .int .u8 (c : Int), .int .i64 (row : Int)] w fun en w' => en = .returned (.tuple #[.int .i64 ((cntI (aheadV t f) c row : Nat) : Int), .int .i64 ((lessI (aheadV t f) c row : Nat) : Int)]) ∧ Below w.heap.size w w' := by
  obtain ⟨F, hn, h⟩ := h
  have hs := (first_str F rfl 0).1
  have := side_rank w g off _ c row _ h (by rw [hs]; exact hn) (by rw [hs]; exact (sa_end F).1) hc (by rw [hs]; exact hr)
  obtain ⟨q1, q2⟩ := rank_str F rfl rfl c row hr
  rw [q1, q2] at this
  exact this
theorem side_firstT {w : World} {g off : Nat} {t : List UInt8} {f : Nat → Nat} (h : SideT w g off t f) (c : Nat) (hc : c < 256) :
    Calls Tryz.prog 96 #[.pointer (some ⟨g, off, none⟩), .int .u8 (c : Int)] w fun en w' => en = .returned (.int .i64 ((firstOf t c : Nat) : Int)) ∧ Below w.heap.size w w' := by
  obtain ⟨F, hn, h⟩ := h
  have hs := (first_str F rfl c)
  have := side_first w g off _ c _ h (by rw [hs.1]; exact hn) (by rw [hs.1]; exact (sa_end F).1) hc
  rw [hs.2] at this
  exact this

set_option maxRecDepth 10000 in
set_option maxHeartbeats 400000 in
theorem side_narrow {w : World} {g off : Nat} {t : List UInt8} {f : Nat → Nat} (h : SideT w g off t f) (lo hi c : Nat) (hc : c < 256) (hl : lo ≤ hi) (hh : hi ≤ t.length + 1) :
    Calls Tryz.prog 64 #[.pointer (some ⟨g, off, none⟩), .int .i64 (lo : Int), .int .i64 (hi : Int), .int .u8 (c : Int)] w fun en w' => en = .returned (.tuple #[.int .i64 ((mvL t f c lo : Nat) : Int), .int .i64 ((mvL t f c hi : Nat) : Int), .int .i64 ((mvP t f c lo hi : Nat) : Int)]) ∧ Below w.heap.size w w' := by
  have HR : Hid (∀ w', Below w.heap.size w w' → ∀ row, row ≤ t.length + 1 → Calls Tryz.prog 95 #[.pointer (some ⟨g, off, none⟩), .int .u8 (c : Int), .int .i64 ((row : Nat) : Int)] w' fun en w2 => en = .returned (.tuple #[.int .i64 ((cntI (aheadV t f) c row : Nat) : Int), .int .i64 ((lessI (aheadV t f) c row : Nat) : Int)]) ∧ Below w'.heap.size w' w2) := fun w' hb row hr => side_rankT (h.below hb) c row hc hr
  have HF : Hid (∀ w', Below w.heap.size w w' → Calls Tryz.prog 96 #[.pointer (some ⟨g, off, none⟩), .int .u8 (c : Int)] w' fun en w2 => en = .returned (.int .i64 ((firstOf t c : Nat) : Int)) ∧ Below w'.heap.size w' w2) := fun w' hb => side_firstT (h.below hb) c hc
  have hn := h.2.1
  clear h
  have l1 := cntI_le (aheadV t f) (c : Int) lo
  have l2 := cntI_le (aheadV t f) (c : Int) hi
  have l3 := lessI_le (aheadV t f) (c : Int) hi
  have l4 := lessI_mono (aheadV t f) (c : Int) hl
  have l5 := firstOf_le t c
  have HL : Hid (mvL t f c lo = firstOf t c + cntI (aheadV t f) c lo ∧ mvL t f c hi = firstOf t c + cntI (aheadV t f) c hi ∧ mvP t f c lo hi = lessI (aheadV t f) c hi - lessI (aheadV t f) c lo) := ⟨rfl, rfl, rfl⟩
  go_enter Tryz.func64, Tryz.ntmps64
  go_wp2_with fail
  refine Calls.mono (HR.out w (Below.refl _ _) lo (by omega)) ?_
  rintro en w1 ⟨rfl, hb1⟩
  go_wp2_with fail
  refine Calls.mono (HR.out w1 hb1 hi (by omega)) ?_
  rintro en w2 ⟨rfl, hb2⟩
  have hb12 := hb1.trans (hb2.mono hb1.size)
  clear hb1 hb2 HR
  go_wp2_with fail
  refine Calls.mono (HF.out w2 hb12) ?_
  rintro en w3 ⟨rfl, hb3⟩
  have hb13 := hb12.trans (hb3.mono hb12.size)
  clear hb12 hb3 HF
  generalize cntI (aheadV t f) (c : Int) lo = A at *
  generalize cntI (aheadV t f) (c : Int) hi = B at *
  generalize lessI (aheadV t f) (c : Int) lo = C at *
  generalize lessI (aheadV t f) (c : Int) hi = D at *
  generalize firstOf t c = E at *
  go_wp2
  go_ret3
  exact ⟨by rw [HL.out.1, HL.out.2.1, HL.out.2.2]; simp; omega, hb13⟩

theorem isByte_any (c : Int) (w : World) : Calls Tryz.prog 104 #[.int .i64 c] w fun e w' => e = .returned (.bool (decide (0 ≤ c ∧ c ≤ 255))) ∧ w' = w := by
  by_cases h1 : 0 ≤ c
  · have d1 : decide (0 ≤ c) = true := by simpa using h1
    by_cases h2 : c ≤ 255
    · have d2 : decide (c ≤ 255) = true := by simpa using h2
      have HB : Hid (decide (0 ≤ c ∧ c ≤ 255) = true) := decide_eq_true ⟨h1, h2⟩
      rw [HB.out]
      clear HB
      go_enter Tryz.func104, Tryz.ntmps104
      go_wp2
      go_ret
      exact ⟨rfl, rfl⟩
    · have d2 : decide (c ≤ 255) = false := by simpa using h2
      have HB : Hid (decide (0 ≤ c ∧ c ≤ 255) = false) := decide_eq_false (fun h => h2 h.2)
      rw [HB.out]
      clear HB
      go_enter Tryz.func104, Tryz.ntmps104
      go_wp2
      go_ret
      exact ⟨rfl, rfl⟩
  · have d1 : decide (0 ≤ c) = false := by simpa using h1
    have HB : Hid (decide (0 ≤ c ∧ c ≤ 255) = false) := decide_eq_false (fun h => h1 h.1)
    rw [HB.out]
    clear HB
    go_enter Tryz.func104, Tryz.ntmps104
    go_wp2
    go_ret
    exact ⟨rfl, rfl⟩
end Go.Proofs.YtkebgnpifmcmaabGreat

namespace Go.Proofs.YtkebgnpifmcmaabGreat
open Go.RowKit

theorem infoPair : (Tryz.prog.info? 47).map (·.size) = some 3 := by kernel_rfl

theorem below_drewN {B : Nat} {a w : World} (h : Below B a w) (n : Nat) : Below B a (w.drewN n) := ⟨h.os, h.tape, h.output, h.size, h.block⟩

set_option maxRecDepth 10000 in
set_option maxHeartbeats 1000000 in
theorem isPair_any {w : World} {g : Nat} {t : List UInt8} {rate : Nat} {f f2 : Nat → Nat} (h : IxT w g t rate f f2) (lo hi bk : Int) :
    Calls Tryz.prog 136 #[.pointer (some ⟨g, 0, none⟩), .agg #[.int .i64 lo, .int .i64 hi, .int .i64 bk]] w (IsPRes t.length lo hi bk w) := by
  have hb : Below w.heap.size w (w.alloc (.cells #[.int .i64 lo, .int .i64 hi, .int .i64 bk] 47)) := (Below.refl _ _).alloc (Nat.le_refl _) _
  have k0 := Blk.new w 47 #[.int .i64 lo, .int .i64 hi, .int .i64 bk]
  have HS : Hid (∀ w', Below w.heap.size w w' → Calls Tryz.prog 59 #[.pointer (some ⟨g, 0, none⟩)] w' fun en w2 => en = .returned (.int .i64 ((t.length + 1 : Nat) : Int)) ∧ w2 = w') := fun w' hb => side_rowsT (h.side.below hb)
  have hn := h.2.2.1
  have hg : g < w.heap.size := by obtain ⟨_, _, _, _, _, c1, c2, m0, m1, m2, pl, base, hk, _⟩ := h; exact hk.lt
  clear h
  by_cases h1 : lo < 0
  · have d1 : decide (lo < 0) = true := by simpa using h1
    have HP : Hid (¬ PairOk t.length lo hi bk) := fun h => by have := h.1; omega
    go_enter Tryz.func136, Tryz.ntmps136
    go_upto_region 1 with fail
    go_quiet (fail)
    go_wp2
    go_ret
    exact ⟨.inr ⟨HP.out, rfl⟩, below_drewN hb _⟩
  · have d1 : decide (lo < 0) = false := by simpa using h1
    by_cases h2 : hi < lo
    · have d2 : decide (hi < lo) = true := by simpa using h2
      have HP : Hid (¬ PairOk t.length lo hi bk) := fun h => by have := h.2.1; omega
      go_enter Tryz.func136, Tryz.ntmps136
      go_upto_region 1 with fail
      go_quiet (fail)
      go_wp2
      go_ret
      exact ⟨.inr ⟨HP.out, rfl⟩, below_drewN hb _⟩
    · have d2 : decide (hi < lo) = false := by simpa using h2
      by_cases h3 : ((t.length + 1 : Nat) : Int) < hi
      · have d3 : decide (((t.length + 1 : Nat) : Int) < hi) = true := by simpa using h3
        have HP : Hid (¬ PairOk t.length lo hi bk) := fun h => by have := h.2.2.1; omega
        go_enter Tryz.func136, Tryz.ntmps136
        go_upto_region 1 with fail
        go_quiet ((go_at_call 59; exact Calls.quiet_of_same (HS.out _ (below_drewN hb _))))
        go_wp2
        go_ret
        exact ⟨.inr ⟨HP.out, rfl⟩, below_drewN hb _⟩
      · have d3 : decide (((t.length + 1 : Nat) : Int) < hi) = false := by simpa using h3
        by_cases h4 : 0 ≤ bk
        · have d4 : decide (0 ≤ bk) = true := by simpa using h4
          by_cases h5 : bk ≤ (t.length : Int) + 1 - (hi - lo)
          · have d5 : decide (bk ≤ (t.length : Int) + 1 - (hi - lo)) = true := by simpa using h5
            have HP : Hid (PairOk t.length lo hi bk) := ⟨by omega, by omega, by omega, by omega, by omega⟩
            go_enter Tryz.func136, Tryz.ntmps136
            go_upto_region 1 with fail
            go_quiet ((go_at_call 59; exact Calls.quiet_of_same (HS.out _ (below_drewN hb _))))
            go_upto_region 3 with fail
            have hb1 := below_drewN hb nq
            have k1 : Blk ((w.alloc (.cells #[.int .i64 lo, .int .i64 hi, .int .i64 bk] 47)).drewN nq) w.heap.size 47 #[.int .i64 lo, .int .i64 hi, .int .i64 bk] := k0
            generalize (w.alloc (.cells #[.int .i64 lo, .int .i64 hi, .int .i64 bk] 47)).drewN nq = W1 at *
            have e0 : W1.cell? ⟨w.heap.size, 0, none⟩ = some (.int .i64 lo) := k1.cell 0
            have e1 : W1.cell? ⟨w.heap.size, 1, none⟩ = some (.int .i64 hi) := k1.cell 1
            have e2 : W1.cell? ⟨w.heap.size, 2, none⟩ = some (.int .i64 bk) := k1.cell 2
            go_quiet ((go_at_call 59; exact Calls.quiet_of_same (HS.out _ (below_drewN hb1 _))))
            go_wp2
            go_ret
            exact ⟨.inl ⟨HP.out, rfl⟩, below_drewN hb1 _⟩
          · have d5 : decide (bk ≤ (t.length : Int) + 1 - (hi - lo)) = false := by simpa using h5
            have HP : Hid (¬ PairOk t.length lo hi bk) := fun h => by have := h.2.2.2.2; omega
            go_enter Tryz.func136, Tryz.ntmps136
            go_upto_region 1 with fail
            go_quiet ((go_at_call 59; exact Calls.quiet_of_same (HS.out _ (below_drewN hb _))))
            go_upto_region 3 with fail
            have hb1 := below_drewN hb nq
            have k1 : Blk ((w.alloc (.cells #[.int .i64 lo, .int .i64 hi, .int .i64 bk] 47)).drewN nq) w.heap.size 47 #[.int .i64 lo, .int .i64 hi, .int .i64 bk] := k0
            generalize (w.alloc (.cells #[.int .i64 lo, .int .i64 hi, .int .i64 bk] 47)).drewN nq = W1 at *
            have e0 : W1.cell? ⟨w.heap.size, 0, none⟩ = some (.int .i64 lo) := k1.cell 0
            have e1 : W1.cell? ⟨w.heap.size, 1, none⟩ = some (.int .i64 hi) := k1.cell 1
            have e2 : W1.cell? ⟨w.heap.size, 2, none⟩ = some (.int .i64 bk) := k1.cell 2
            go_quiet ((go_at_call 59; exact Calls.quiet_of_same (HS.out _ (below_drewN hb1 _))))
            go_wp2
            go_ret
            exact ⟨.inr ⟨HP.out, rfl⟩, below_drewN hb1 _⟩
        · have d4 : decide (0 ≤ bk) = false := by simpa using h4
          have HP : Hid (¬ PairOk t.length lo hi bk) := fun h => by have := h.2.2.2.1; omega
          go_enter Tryz.func136, Tryz.ntmps136
          go_upto_region 1 with fail
          go_quiet ((go_at_call 59; exact Calls.quiet_of_same (HS.out _ (below_drewN hb _))))
          go_upto_region 3 with fail
          have hb1 := below_drewN hb nq
          have k1 : Blk ((w.alloc (.cells #[.int .i64 lo, .int .i64 hi, .int .i64 bk] 47)).drewN nq) w.heap.size 47 #[.int .i64 lo, .int .i64 hi, .int .i64 bk] := k0
          generalize (w.alloc (.cells #[.int .i64 lo, .int .i64 hi, .int .i64 bk] 47)).drewN nq = W1 at *
          have e0 : W1.cell? ⟨w.heap.size, 0, none⟩ = some (.int .i64 lo) := k1.cell 0
          have e1 : W1.cell? ⟨w.heap.size, 1, none⟩ = some (.int .i64 hi) := k1.cell 1
          have e2 : W1.cell? ⟨w.heap.size, 2, none⟩ = some (.int .i64 bk) := k1.cell 2
          go_quiet (fail)
          go_wp2
          go_ret
          exact ⟨.inr ⟨HP.out, rfl⟩, below_drewN hb1 _⟩
end Go.Proofs.YtkebgnpifmcmaabGreat

namespace Go.Proofs.YtkebgnpifmcmaabGreat
open Go.RowKit

theorem enterNarrow (args : Array Value) (w : World) : (callFunc 64 args).run Tryz.prog w = .ok (.enter 64 args) w := Go.MuLone.run_callFunc_enter (P := Tryz.prog) Tryz.func64 (by kernel_rfl) rfl args w

theorem wrapI_small {n : Int} (h0 : 0 ≤ n) (h1 : n < 9223372036854775808) : IntKind.i64.wrap n = n := by
  have h2 : n % (2 ^ 64 : Int) = n := by omega
  unfold IntKind.wrap
  simp only [show IntKind.i64.bits = 64 from rfl, show IntKind.i64.signed = true from rfl, h2]
  rw [if_neg]
  simp only [Bool.true_and, decide_eq_true_eq]
  omega

/-- The pair with a byte to the left; to the right. -/
def leftV (t : List UInt8) (f : Nat → Nat) (lo hi bk c : Nat) : Value := .agg #[.int .i64 ((mvL t f c lo : Nat) : Int), .int .i64 ((mvL t f c hi : Nat) : Int), .int .i64 ((bk + mvP t f c lo hi : Nat) : Int)]
def rightV (t : List UInt8) (f2 : Nat → Nat) (lo hi bk c : Nat) : Value := .agg #[.int .i64 ((lo + mvP t f2 c bk (bk + hi - lo) : Nat) : Int), .int .i64 ((lo + mvP t f2 c bk (bk + hi - lo) + mvL t f2 c (bk + hi - lo) - mvL t f2 c bk : Nat) : Int), .int .i64 ((mvL t f2 c bk : Nat) : Int)]

theorem mvL_le (t : List UInt8) (f : Nat → Nat) (c row : Nat) : mvL t f c row ≤ t.length + 1 + row := by
  have := firstOf_le t c
  have := cntI_le (aheadV t f) (c : Int) row
  unfold mvL; omega
theorem mvP_le (t : List UInt8) (f : Nat → Nat) (c lo hi : Nat) : mvP t f c lo hi ≤ hi := by
  have := lessI_le (aheadV t f) (c : Int) hi
  unfold mvP; omega

set_option maxRecDepth 10000 in
set_option maxHeartbeats 1000000 in
theorem grow_left {w : World} {g : Nat} {t : List UInt8} {rate : Nat} {f f2 : Nat → Nat} (h : IxT w g t rate f f2) (lo hi bk c : Nat) (hc : c < 256) (hl : lo ≤ hi) (hh : hi ≤ t.length + 1) (hbk : bk + (hi - lo) ≤ t.length + 1) :
    Calls Tryz.prog 89 #[.pointer (some ⟨g, 0, none⟩), .agg #[.int .i64 (lo : Int), .int .i64 (hi : Int), .int .i64 (bk : Int)], .int .i64 0, .int .u8 (c : Int)] w fun en w' => en = .returned (leftV t f lo hi bk c) ∧ Below w.heap.size w w' := by
  have hb0 : Below w.heap.size w ((w.alloc (.cells #[.int .i64 (lo : Int), .int .i64 (hi : Int), .int .i64 (bk : Int)] 47)).alloc (.cells #[.int .i64 0, .int .i64 0, .int .i64 0] 47)) := ((Below.refl _ _).alloc (Nat.le_refl _) _).alloc (by simp) _
  have k0 := (Blk.new w 47 #[.int .i64 (lo : Int), .int .i64 (hi : Int), .int .i64 (bk : Int)]).alloc (.cells #[.int .i64 0, .int .i64 0, .int .i64 0] 47)
  have k1 := Blk.new (w.alloc (.cells #[.int .i64 (lo : Int), .int .i64 (hi : Int), .int .i64 (bk : Int)] 47)) 47 #[.int .i64 0, .int .i64 0, .int .i64 0]
  rw [show (w.alloc (.cells #[.int .i64 (lo : Int), .int .i64 (hi : Int), .int .i64 (bk : Int)] 47)).heap.size = w.heap.size + 1 from by simp] at k1
  have HN : Hid (∀ w', Below w.heap.size w w' → Calls Tryz.prog 64 #[.pointer (some ⟨g, 0, none⟩), .int .i64 (lo : Int), .int .i64 (hi : Int), .int .u8 (c : Int)] w' fun en w2 => en = .returned (.tuple #[.int .i64 ((mvL t f c lo : Nat) : Int), .int .i64 ((mvL t f c hi : Nat) : Int), .int .i64 ((mvP t f c lo hi : Nat) : Int)]) ∧ Below w'.heap.size w' w2) := fun w' hb => side_narrow (h.side.below hb) lo hi c hc hl hh
  have hn := h.2.2.1
  have l1 := mvP_le t f c lo hi
  clear h
  have HV : Hid (leftV t f lo hi bk c = .agg #[.int .i64 ((mvL t f c lo : Nat) : Int), .int .i64 ((mvL t f c hi : Nat) : Int), .int .i64 ((bk : Int) + (mvP t f c lo hi : Int))]) := by
    show leftV t f lo hi bk c = _
    unfold leftV; rw [Int.natCast_add]
  generalize mvP t f c lo hi = P at *
  generalize mvL t f c lo = L at *
  generalize mvL t f c hi = U at *
  go_enter Tryz.func89, Tryz.ntmps89
  go_upto_region 2 with fail
  generalize (w.alloc (.cells #[.int .i64 (lo : Int), .int .i64 (hi : Int), .int .i64 (bk : Int)] 47)).alloc (.cells #[.int .i64 0, .int .i64 0, .int .i64 0] 47) = W0 at *
  obtain ⟨G, hG⟩ : ∃ G, G = w.heap.size := ⟨_, rfl⟩
  have HG : Hid (G = w.heap.size) := hG
  rw [← hG] at k0 k1 hb0 ⊢
  clear hG
  have hc0 : W0.cell? ⟨G, 0, none⟩ = some (.int .i64 (lo : Int)) := k0.cell 0
  have hc1 : W0.cell? ⟨G, 1, none⟩ = some (.int .i64 (hi : Int)) := k0.cell 1
  have k0' : Blk W0.drew G 47 #[.int .i64 (lo : Int), .int .i64 (hi : Int), .int .i64 (bk : Int)] := k0
  have k1' : Blk W0.drew (G + 1) 47 #[.int .i64 0, .int .i64 0, .int .i64 0] := k1
  have hl0 := k0.lt
  have hl1 := k1.lt
  have hbd : Below G w W0.drew := hb0.drew
  have HN1 : Hid _ := HN.out W0.drew (by rw [← HG.out]; exact hbd)
  clear HN
  go_region_law (first
    | (refine step_calls (args := #[.pointer (some ⟨g, 0, none⟩), .int .i64 (lo : Int), .int .i64 (hi : Int), .int .u8 (c : Int)]) rfl rfl enterNarrow (by simp [Act.eval]) HN1.out ?_; rintro en w2 ⟨rfl, hb2⟩; refine ⟨_, rfl, ?_⟩; have hd2 : w2.cell? ⟨G, 2, none⟩ = some (.int .i64 (bk : Int)) := (k0'.below hb2 hl0).cell 2; have hk2 := k1'.below hb2 hl1; have hf0 := hk2.free 0; have hf1 := hk2.free 1; have hf2 := hk2.free 2; have e0 := hk2.cell 0; have e1 := hk2.cell 1; have e2 := hk2.cell 2))
  all_goals go_wp2
  all_goals exact bodyPost_ret (v := .agg #[.int .i64 (L : Int), .int .i64 (U : Int), .int .i64 ((bk : Int) + (P : Int))]) (results_cell_row (P := Tryz.prog) rfl _ _ (G + 1) 47 _ (0, 0) _ rfl (((hk2.set 0 _).set 1 _).set 2 _) Tryz.underlying47 rfl infoPair) rfl ⟨by rw [HV.out], by rw [← HG.out]; exact (((hbd.trans (hb2.mono (Nat.le_of_lt hl0))).setCell (by show G ≤ G + 1; omega) _).setCell (by show G ≤ G + 1; omega) _).setCell (by show G ≤ G + 1; omega) _⟩
end Go.Proofs.YtkebgnpifmcmaabGreat

namespace Go.Proofs.YtkebgnpifmcmaabGreat
open Go.RowKit

theorem enterBackwards (args : Array Value) (w : World) : (callFunc 109 args).run Tryz.prog w = .ok (.enter 109 args) w := Go.MuLone.run_callFunc_enter (P := Tryz.prog) Tryz.func109 (by kernel_rfl) rfl args w
theorem enterMoved (args : Array Value) (w : World) : (callFunc 108 args).run Tryz.prog w = .ok (.enter 108 args) w := Go.MuLone.run_callFunc_enter (P := Tryz.prog) Tryz.func108 (by kernel_rfl) rfl args w

theorem mvL_same {t : List UInt8} {f f' : Nat → Nat} (F : IsSA t f) (F' : IsSA t f') (c row : Nat) (hr : row ≤ t.length + 1) : mvL t f c row = mvL t f' c row := by
  unfold mvL; rw [(mv_congr F F' c row hr).1]
theorem mvP_same {t : List UInt8} {f f' : Nat → Nat} (F : IsSA t f) (F' : IsSA t f') (c lo hi : Nat) (hl : lo ≤ hi) (hr : hi ≤ t.length + 1) : mvP t f c lo hi = mvP t f' c lo hi := by
  unfold mvP; rw [(mv_congr F F' c hi hr).2, (mv_congr F F' c lo (by omega)).2]

theorem zeroPair : (.agg #[.int .i64 0, .int .i64 0, .int .i64 0] : Value) = .agg #[.int .i64 0, .int .i64 0, .int .i64 0] := rfl

/-- What a call on a pair refuses. -/
def badRes (n : Nat) (w : World) (e : Ending) (w' : World) : Prop := e = .returned (.tuple #[.agg #[.int .i64 0, .int .i64 0, .int .i64 0], .int .i64 (n : Int)]) ∧ Below w.heap.size w w'

set_option maxRecDepth 10000 in
set_option maxHeartbeats 1000000 in
theorem refLeft_bad (s : ByteArray) (lo hi bk c : Int) (w : World) (hn : s.size ≤ 2000) (h : ¬ (0 ≤ c ∧ c ≤ 255 ∧ PairOk s.size lo hi bk)) :
    Calls Tryz.prog 76 #[.string s, .agg #[.int .i64 lo, .int .i64 hi, .int .i64 bk], .int .i64 c] w (badRes 5 w) := by
  have hb0 : Below w.heap.size w ((w.alloc (.cells #[.int .i64 lo, .int .i64 hi, .int .i64 bk] 47)).alloc (.cells #[.int .i64 0, .int .i64 0, .int .i64 0] 47)) := ((Below.refl _ _).alloc (Nat.le_refl _) _).alloc (by simp) _
  have k0 := (Blk.new w 47 #[.int .i64 lo, .int .i64 hi, .int .i64 bk]).alloc (.cells #[.int .i64 0, .int .i64 0, .int .i64 0] 47)
  have k1 := Blk.new (w.alloc (.cells #[.int .i64 lo, .int .i64 hi, .int .i64 bk] 47)) 47 #[.int .i64 0, .int .i64 0, .int .i64 0]
  rw [show (w.alloc (.cells #[.int .i64 lo, .int .i64 hi, .int .i64 bk] 47)).heap.size = w.heap.size + 1 from by simp] at k1
  have HI : Hid _ := refIsPair_any s lo hi bk ((w.alloc (.cells #[.int .i64 lo, .int .i64 hi, .int .i64 bk] 47)).alloc (.cells #[.int .i64 0, .int .i64 0, .int .i64 0] 47)) hn
  have HH : Hid (¬ (0 ≤ c ∧ c ≤ 255 ∧ PairOk s.size lo hi bk)) := h
  clear h
  go_enter Tryz.func76, Tryz.ntmps76
  go_wp2_with fail
  refine Calls.mono HI.out ?_
  clear HI
  rintro en w1 ⟨hres, hb1⟩
  have hl1 := k1.lt
  have hk2 := k1.below hb1 hl1
  have hb2 := hb0.trans (hb1.mono hb0.size)
  have hf0 := hk2.free 0
  have hf1 := hk2.free 1
  have hf2 := hk2.free 2
  have e0 := hk2.cell 0
  have e1 := hk2.cell 1
  have e2 := hk2.cell 2
  have HFIN : Hid (badRes 5 w (.returned (.tuple #[.agg #[.int .i64 0, .int .i64 0, .int .i64 0], .int .i64 5])) ((((w1.setCell ⟨w.heap.size + 1, 0, none⟩ (.int .i64 0)).setCell ⟨w.heap.size + 1, 1, none⟩ (.int .i64 0)).setCell ⟨w.heap.size + 1, 2, none⟩ (.int .i64 0)))) := ⟨rfl, ((hb2.setCell (by simp) _).setCell (by simp) _).setCell (by simp) _⟩
  clear k0 k1 hb0 hb1
  have HRT : Hid ((loadVar 47 ⟨w.heap.size + 1, 0, none⟩).run Tryz.prog (((w1.setCell ⟨w.heap.size + 1, 0, none⟩ (.int .i64 0)).setCell ⟨w.heap.size + 1, 1, none⟩ (.int .i64 0)).setCell ⟨w.heap.size + 1, 2, none⟩ (.int .i64 0)) = .ok (.agg #[.int .i64 0, .int .i64 0, .int .i64 0]) (((w1.setCell ⟨w.heap.size + 1, 0, none⟩ (.int .i64 0)).setCell ⟨w.heap.size + 1, 1, none⟩ (.int .i64 0)).setCell ⟨w.heap.size + 1, 2, none⟩ (.int .i64 0))) := run_loadVar_row _ (w.heap.size + 1) 47 47 _ (0, 0) _ (((hk2.set 0 _).set 1 _).set 2 _) Tryz.underlying47 rfl infoPair
  rcases hres with ⟨hp, rfl⟩ | ⟨hp, rfl⟩
  · have hcc : c < 0 ∨ 255 < c := by
      have := HH.out
      rcases Classical.em (0 ≤ c ∧ c ≤ 255) with h | h
      · exact absurd ⟨h.1, h.2, hp⟩ this
      · omega
    clear hp HH
    by_cases h1 : c < 0
    · have d1 : decide (c < 0) = true := by simpa using h1
      go_wp2
      exact bodyPost_ret (v := .tuple #[.agg #[.int .i64 0, .int .i64 0, .int .i64 0], .int .i64 5]) (results_cell_tmp_row (ty := 47) rfl _ _ (w.heap.size + 1) _ (.int .i64 5) rfl rfl HRT.out) rfl HFIN.out
    · have d1 : decide (c < 0) = false := by simpa using h1
      have d2 : decide (255 < c) = true := by simp only [decide_eq_true_eq]; omega
      go_wp2
      exact bodyPost_ret (v := .tuple #[.agg #[.int .i64 0, .int .i64 0, .int .i64 0], .int .i64 5]) (results_cell_tmp_row (ty := 47) rfl _ _ (w.heap.size + 1) _ (.int .i64 5) rfl rfl HRT.out) rfl HFIN.out
  · clear hp HH
    by_cases h1 : c < 0
    · have d1 : decide (c < 0) = true := by simpa using h1
      go_wp2
      exact bodyPost_ret (v := .tuple #[.agg #[.int .i64 0, .int .i64 0, .int .i64 0], .int .i64 5]) (results_cell_tmp_row (ty := 47) rfl _ _ (w.heap.size + 1) _ (.int .i64 5) rfl rfl HRT.out) rfl HFIN.out
    · have d1 : decide (c < 0) = false := by simpa using h1
      by_cases h2 : 255 < c
      · have d2 : decide (255 < c) = true := by simpa using h2
        go_wp2
        exact bodyPost_ret (v := .tuple #[.agg #[.int .i64 0, .int .i64 0, .int .i64 0], .int .i64 5]) (results_cell_tmp_row (ty := 47) rfl _ _ (w.heap.size + 1) _ (.int .i64 5) rfl rfl HRT.out) rfl HFIN.out
      · have d2 : decide (255 < c) = false := by simpa using h2
        go_wp2
        exact bodyPost_ret (v := .tuple #[.agg #[.int .i64 0, .int .i64 0, .int .i64 0], .int .i64 5]) (results_cell_tmp_row (ty := 47) rfl _ _ (w.heap.size + 1) _ (.int .i64 5) rfl rfl HRT.out) rfl HFIN.out

set_option maxRecDepth 10000 in
set_option maxHeartbeats 1000000 in
theorem refRight_bad (s : ByteArray) (lo hi bk c : Int) (w : World) (hn : s.size ≤ 2000) (h : ¬ (0 ≤ c ∧ c ≤ 255 ∧ PairOk s.size lo hi bk)) :
    Calls Tryz.prog 77 #[.string s, .agg #[.int .i64 lo, .int .i64 hi, .int .i64 bk], .int .i64 c] w (badRes 5 w) := by
  have hb0 : Below w.heap.size w ((w.alloc (.cells #[.int .i64 lo, .int .i64 hi, .int .i64 bk] 47)).alloc (.cells #[.int .i64 0, .int .i64 0, .int .i64 0] 47)) := ((Below.refl _ _).alloc (Nat.le_refl _) _).alloc (by simp) _
  have k0 := (Blk.new w 47 #[.int .i64 lo, .int .i64 hi, .int .i64 bk]).alloc (.cells #[.int .i64 0, .int .i64 0, .int .i64 0] 47)
  have k1 := Blk.new (w.alloc (.cells #[.int .i64 lo, .int .i64 hi, .int .i64 bk] 47)) 47 #[.int .i64 0, .int .i64 0, .int .i64 0]
  rw [show (w.alloc (.cells #[.int .i64 lo, .int .i64 hi, .int .i64 bk] 47)).heap.size = w.heap.size + 1 from by simp] at k1
  have HI : Hid _ := refIsPair_any s lo hi bk ((w.alloc (.cells #[.int .i64 lo, .int .i64 hi, .int .i64 bk] 47)).alloc (.cells #[.int .i64 0, .int .i64 0, .int .i64 0] 47)) hn
  have HH : Hid (¬ (0 ≤ c ∧ c ≤ 255 ∧ PairOk s.size lo hi bk)) := h
  clear h
  go_enter Tryz.func77, Tryz.ntmps77
  go_wp2_with fail
  refine Calls.mono HI.out ?_
  clear HI
  rintro en w1 ⟨hres, hb1⟩
  have hl1 := k1.lt
  have hk2 := k1.below hb1 hl1
  have hb2 := hb0.trans (hb1.mono hb0.size)
  have hf0 := hk2.free 0
  have hf1 := hk2.free 1
  have hf2 := hk2.free 2
  have e0 := hk2.cell 0
  have e1 := hk2.cell 1
  have e2 := hk2.cell 2
  have HFIN : Hid (badRes 5 w (.returned (.tuple #[.agg #[.int .i64 0, .int .i64 0, .int .i64 0], .int .i64 5])) ((((w1.setCell ⟨w.heap.size + 1, 0, none⟩ (.int .i64 0)).setCell ⟨w.heap.size + 1, 1, none⟩ (.int .i64 0)).setCell ⟨w.heap.size + 1, 2, none⟩ (.int .i64 0)))) := ⟨rfl, ((hb2.setCell (by simp) _).setCell (by simp) _).setCell (by simp) _⟩
  clear k0 k1 hb0 hb1
  have HRT : Hid ((loadVar 47 ⟨w.heap.size + 1, 0, none⟩).run Tryz.prog (((w1.setCell ⟨w.heap.size + 1, 0, none⟩ (.int .i64 0)).setCell ⟨w.heap.size + 1, 1, none⟩ (.int .i64 0)).setCell ⟨w.heap.size + 1, 2, none⟩ (.int .i64 0)) = .ok (.agg #[.int .i64 0, .int .i64 0, .int .i64 0]) (((w1.setCell ⟨w.heap.size + 1, 0, none⟩ (.int .i64 0)).setCell ⟨w.heap.size + 1, 1, none⟩ (.int .i64 0)).setCell ⟨w.heap.size + 1, 2, none⟩ (.int .i64 0))) := run_loadVar_row _ (w.heap.size + 1) 47 47 _ (0, 0) _ (((hk2.set 0 _).set 1 _).set 2 _) Tryz.underlying47 rfl infoPair
  rcases hres with ⟨hp, rfl⟩ | ⟨hp, rfl⟩
  · have hcc : c < 0 ∨ 255 < c := by
      have := HH.out
      rcases Classical.em (0 ≤ c ∧ c ≤ 255) with h | h
      · exact absurd ⟨h.1, h.2, hp⟩ this
      · omega
    clear hp HH
    by_cases h1 : c < 0
    · have d1 : decide (c < 0) = true := by simpa using h1
      go_wp2
      exact bodyPost_ret (v := .tuple #[.agg #[.int .i64 0, .int .i64 0, .int .i64 0], .int .i64 5]) (results_cell_tmp_row (ty := 47) rfl _ _ (w.heap.size + 1) _ (.int .i64 5) rfl rfl HRT.out) rfl HFIN.out
    · have d1 : decide (c < 0) = false := by simpa using h1
      have d2 : decide (255 < c) = true := by simp only [decide_eq_true_eq]; omega
      go_wp2
      exact bodyPost_ret (v := .tuple #[.agg #[.int .i64 0, .int .i64 0, .int .i64 0], .int .i64 5]) (results_cell_tmp_row (ty := 47) rfl _ _ (w.heap.size + 1) _ (.int .i64 5) rfl rfl HRT.out) rfl HFIN.out
  · clear hp HH
    by_cases h1 : c < 0
    · have d1 : decide (c < 0) = true := by simpa using h1
      go_wp2
      exact bodyPost_ret (v := .tuple #[.agg #[.int .i64 0, .int .i64 0, .int .i64 0], .int .i64 5]) (results_cell_tmp_row (ty := 47) rfl _ _ (w.heap.size + 1) _ (.int .i64 5) rfl rfl HRT.out) rfl HFIN.out
    · have d1 : decide (c < 0) = false := by simpa using h1
      by_cases h2 : 255 < c
      · have d2 : decide (255 < c) = true := by simpa using h2
        go_wp2
        exact bodyPost_ret (v := .tuple #[.agg #[.int .i64 0, .int .i64 0, .int .i64 0], .int .i64 5]) (results_cell_tmp_row (ty := 47) rfl _ _ (w.heap.size + 1) _ (.int .i64 5) rfl rfl HRT.out) rfl HFIN.out
      · have d2 : decide (255 < c) = false := by simpa using h2
        go_wp2
        exact bodyPost_ret (v := .tuple #[.agg #[.int .i64 0, .int .i64 0, .int .i64 0], .int .i64 5]) (results_cell_tmp_row (ty := 47) rfl _ _ (w.heap.size + 1) _ (.int .i64 5) rfl rfl HRT.out) rfl HFIN.out
end Go.Proofs.YtkebgnpifmcmaabGreat
