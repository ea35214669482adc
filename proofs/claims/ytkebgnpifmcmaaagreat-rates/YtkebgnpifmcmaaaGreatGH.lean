import Derived.Test.YtkebgnpifmcmaaaGreatGD
import Derived.Test.YtkebgnpifmcmaaaGreatGB
import Derived.Test.YtkebgnpifmcmaaaGreatGE
import Derived.Test.YtkebgnpifmcmaaaGreatGG
import Derived.Deep.QuietTactic
import Derived.BigQuiet
namespace Go.Proofs.YtkebgnpifmcmaaaGreat
open Go.RowKit

/-- How many of the first numbers are c; how many are less. -/
def cntI (a : Nat → Int) (c : Int) : Nat → Nat
  | 0 => 0
  | m + 1 => cntI a c m + (if a m = c then 1 else 0)
def lessI (a : Nat → Int) (c : Int) : Nat → Nat
  | 0 => 0
  | m + 1 => lessI a c m + (if a m < c then 1 else 0)
theorem cntI_succ (a : Nat → Int) (c : Int) (m : Nat) : cntI a c (m + 1) = cntI a c m + (if a m = c then 1 else 0) := rfl
theorem lessI_succ (a : Nat → Int) (c : Int) (m : Nat) : lessI a c (m + 1) = lessI a c m + (if a m < c then 1 else 0) := rfl
theorem cntI_le (a : Nat → Int) (c : Int) (m : Nat) : cntI a c m ≤ m := by
  induction m with
  | zero => exact Nat.le_refl _
  | succ m ih => rw [cntI_succ]; split <;> omega
theorem lessI_le (a : Nat → Int) (c : Int) (m : Nat) : lessI a c m ≤ m := by
  induction m with
  | zero => exact Nat.le_refl _
  | succ m ih => rw [lessI_succ]; split <;> omega
theorem both_le (a : Nat → Int) (c : Int) (m : Nat) : cntI a c m + lessI a c m ≤ m := by
  induction m with
  | zero => exact Nat.le_refl _
  | succ m ih => rw [lessI_succ, cntI_succ]; split <;> split <;> omega
theorem cntI_mono (a : Nat → Int) (c : Int) {i m : Nat} (h : i ≤ m) : cntI a c i ≤ cntI a c m := by
  induction h with
  | refl => exact Nat.le_refl _
  | step _ ih => rw [cntI_succ]; omega
theorem lessI_mono (a : Nat → Int) (c : Int) {i m : Nat} (h : i ≤ m) : lessI a c i ≤ lessI a c m := by
  induction h with
  | refl => exact Nat.le_refl _
  | step _ ih => rw [lessI_succ]; omega
theorem both_mono (a : Nat → Int) (c : Int) {i m : Nat} (h : i ≤ m) : cntI a c m + lessI a c m + i ≤ cntI a c i + lessI a c i + m := by
  induction h with
  | refl => exact Nat.le_refl _
  | step _ ih => rw [cntI_succ, lessI_succ]; split <;> split <;> omega
theorem cntI_congr {a b : Nat → Int} {c : Int} {m : Nat} (h : ∀ i, i < m → a i = b i) : cntI a c m = cntI b c m ∧ lessI a c m = lessI b c m := by
  induction m with
  | zero => exact ⟨rfl, rfl⟩
  | succ m ih =>
    obtain ⟨i1, i2⟩ := ih (fun i hi => h i (by omega))
    rw [cntI_succ, cntI_succ, lessI_succ, lessI_succ, i1, i2, h m (by omega)]
    exact ⟨rfl, rfl⟩

theorem lessE_zero (b : Nat → Nat) (e c : Nat) : lessE b e c 0 = 0 := by rw [lessE_neg (by omega)]; rfl
theorem idx_next_end (e : Nat) : idx e (e + 1) = e ∧ idx e e = e := by unfold idx; constructor <;> split <;> omega
theorem idx_next {e r : Nat} (h : r ≠ e) : idx e (r + 1) = idx e r + 1 := by unfold idx; split <;> split <;> omega

/-- What a side counts is what stands ahead of the rows. -/
theorem rank_side {t : List UInt8} {f : Nat → Nat} (F : IsSA t f) (c : Nat) : ∀ row, row ≤ t.length + 1 →
    cnt (bN (pre t f (t.length + 1))) c (idx (endOf f (t.length + 1)) row) = cntI (aheadV t f) (c : Int) row ∧
    lessE (bN (pre t f (t.length + 1))) (endOf f (t.length + 1)) c row = lessI (aheadV t f) (c : Int) row := by
  intro row
  induction row with
  | zero =>
    intro _
    exact ⟨by rw [show idx (endOf f (t.length + 1)) 0 = 0 from by unfold idx; split <;> omega]; rfl, lessE_zero _ _ _⟩
  | succ row ih =>
    intro hr
    obtain ⟨i1, i2⟩ := ih (by omega)
    have hz := sa_zero F row (by omega)
    by_cases he : row = endOf f (t.length + 1)
    · have hf := hz.2 he
      rw [← he] at i1 i2 ⊢
      obtain ⟨e1, e2⟩ := idx_next_end row
      rw [e2] at i1
      rw [lessE_neg (by omega)] at i2
      rw [e1, i1, cntI_succ, lessI_succ, aheadV_zero hf, if_neg (by omega), if_pos (by omega), ← i2, lessE_pos (by omega)]
      exact ⟨rfl, rfl⟩
    · have hf : f row ≠ 0 := fun h => he (hz.1 h)
      have hb : bN (pre t f (t.length + 1)) (idx (endOf f (t.length + 1)) row) = (t.getD (f row - 1) 0).toNat := by
        unfold bN; rw [bwt_get F row (by omega) he]
      rw [cntI_succ, lessI_succ, aheadV_pos hf, ← i1, ← i2]
      constructor
      · rw [idx_next he, cnt_succ, hb]
        congr 1
        by_cases hc : (t.getD (f row - 1) 0).toNat = c
        · rw [if_pos hc, if_pos (by omega)]
        · rw [if_neg hc, if_neg (by omega)]
      · unfold lessE
        rw [idx_next he]
        have hs : ∀ b : Nat → Nat, ∀ x m, less b x (m + 1) = less b x m + (if b m < x then 1 else 0) := fun b x m => rfl
        rw [hs, hb]
        have hq : (if (t.getD (f row - 1) 0).toNat < c then 1 else 0) = (if ((t.getD (f row - 1) 0).toNat : Int) < (c : Int) then 1 else 0) := by
          by_cases hc : (t.getD (f row - 1) 0).toNat < c
          · rw [if_pos hc, if_pos (by omega)]
          · rw [if_neg hc, if_neg (by omega)]
        rw [hq]
        have hw : (if endOf f (t.length + 1) < row + 1 then 1 else 0) = (if endOf f (t.length + 1) < row then 1 else 0) := by
          by_cases hlt : endOf f (t.length + 1) < row
          · rw [if_pos hlt, if_pos (by omega)]
          · rw [if_neg hlt, if_neg (by omega)]
        rw [hw]
        omega

/-- The same of a side's bytes as a string. -/
theorem rank_str {t : List UInt8} {f : Nat → Nat} (F : IsSA t f) {s : ByteArray} {e : Nat} (hs : s = bs (pre t f (t.length + 1))) (he : e = endOf f (t.length + 1)) (c row : Nat) (hr : row ≤ t.length + 1) :
    cnt (byN s) c (idx e row) = cntI (aheadV t f) (c : Int) row ∧ lessE (byN s) e c row = lessI (aheadV t f) (c : Int) row := by
  subst hs he
  have hl := bwt_length F
  have hx : idx (endOf f (t.length + 1)) row ≤ t.length := by
    have := (sa_end F).1
    unfold idx; split <;> omega
  have hcg : ∀ x, cnt (byN (bs (pre t f (t.length + 1)))) x (idx (endOf f (t.length + 1)) row) = cnt (bN (pre t f (t.length + 1))) x (idx (endOf f (t.length + 1)) row) := fun x =>
    cnt_congr (fun i hi => by rw [byN_tx _ _ (by rw [bs_size, hl]; omega), tx_bs]) x
  obtain ⟨h1, h2⟩ := rank_side F c row hr
  refine ⟨by rw [hcg, h1], ?_⟩
  rw [← h2]
  unfold lessE
  rw [less_of_cnt hcg]

/-- How many suffixes go ahead of those that begin with c. -/
def firstOf (t : List UInt8) (c : Nat) : Nat := 1 + less (bN t) c t.length
theorem first_str {t : List UInt8} {f : Nat → Nat} (F : IsSA t f) {s : ByteArray} (hs : s = bs (pre t f (t.length + 1))) (c : Nat) : s.size = t.length ∧ 1 + less (byN s) c s.size = firstOf t c := by
  subst hs
  have hl := bwt_length F
  have hsz : (bs (pre t f (t.length + 1))).size = t.length := by rw [bs_size, hl]
  refine ⟨hsz, ?_⟩
  rw [hsz, firstOf]
  congr 1
  refine less_of_cnt (fun x => ?_) c
  rw [← bwt_cnt F x]
  exact cnt_congr (fun i hi => by rw [byN_tx _ _ (by rw [hsz]; omega), tx_bs]) x
theorem firstOf_le (t : List UInt8) (c : Nat) : firstOf t c ≤ t.length + 1 := by
  have := less_le (bN t) c t.length
  unfold firstOf; omega

/-- An interval moved by a byte to the left; and how many of its rows have less ahead of them. -/
def mvL (t : List UInt8) (f : Nat → Nat) (c row : Nat) : Nat := firstOf t c + cntI (aheadV t f) (c : Int) row
def mvP (t : List UInt8) (f : Nat → Nat) (c lo hi : Nat) : Nat := lessI (aheadV t f) (c : Int) hi - lessI (aheadV t f) (c : Int) lo
theorem mvL_mono (t : List UInt8) (f : Nat → Nat) (c : Nat) {i m : Nat} (h : i ≤ m) : mvL t f c i ≤ mvL t f c m := Nat.add_le_add_left (cntI_mono _ _ h) _
theorem mv_le (t : List UInt8) (f : Nat → Nat) (c : Nat) {i m : Nat} (h : i ≤ m) : mvL t f c m + mvP t f c i m + i ≤ mvL t f c i + m := by
  have := both_mono (aheadV t f) (c : Int) h
  have := lessI_mono (aheadV t f) (c : Int) h
  unfold mvL mvP; omega
theorem mv_congr {t : List UInt8} {f f' : Nat → Nat} (F : IsSA t f) (F' : IsSA t f') (c : Nat) : (∀ r, r ≤ t.length + 1 → cntI (aheadV t f) (c : Int) r = cntI (aheadV t f') (c : Int) r ∧ lessI (aheadV t f) (c : Int) r = lessI (aheadV t f') (c : Int) r) := fun r hr =>
  cntI_congr (fun i hi => by unfold aheadV; rw [F.unique F' i (by omega)])
end Go.Proofs.YtkebgnpifmcmaaaGreat

namespace Go.Proofs.YtkebgnpifmcmaaaGreat
open Go.RowKit

end Go.Proofs.YtkebgnpifmcmaaaGreat

namespace Go.Proofs.YtkebgnpifmcmaaaGreat
open Go.RowKit

/-- A pair of a text of n bytes, one of a pattern or not. -/
def PairOk (n : Nat) (lo hi bk : Int) : Prop := 0 ≤ lo ∧ lo ≤ hi ∧ hi ≤ (n : Int) + 1 ∧ 0 ≤ bk ∧ bk ≤ (n : Int) + 1 - (hi - lo)
theorem PairOk.nat {n : Nat} {lo hi bk : Int} (h : PairOk n lo hi bk) : ∃ l u b : Nat, lo = (l : Int) ∧ hi = (u : Int) ∧ bk = (b : Int) ∧ l ≤ u ∧ u ≤ n + 1 ∧ b + (u - l) ≤ n + 1 := by
  obtain ⟨h1, h2, h3, h4, h5⟩ := h
  exact ⟨lo.toNat, hi.toNat, bk.toNat, by omega, by omega, by omega, by omega, by omega, by omega⟩
theorem pairOk_nat {n l u b : Nat} (h1 : l ≤ u) (h2 : u ≤ n + 1) (h3 : b + (u - l) ≤ n + 1) : PairOk n (l : Int) (u : Int) (b : Int) := by
  unfold PairOk; omega

def IsPRes (n : Nat) (lo hi bk : Int) (w : World) (e : Ending) (w' : World) : Prop := ((PairOk n lo hi bk ∧ e = .returned (.bool true)) ∨ (¬ PairOk n lo hi bk ∧ e = .returned (.bool false))) ∧ Below w.heap.size w w'

end Go.Proofs.YtkebgnpifmcmaaaGreat

namespace Go.Proofs.YtkebgnpifmcmaaaGreat
open Go.RowKit

/-- The text and the rate that an image tells. -/
def imT (im : ByteArray) : List UInt8 := backText (tx (iS im 1)) (iE im 1)
def imR (im : ByteArray) : Nat := mRate (rBody im 0)

/-- An index of a text, in memory. -/
def IxT (w : World) (g : Nat) (t : List UInt8) (rate : Nat) (f f2 : Nat → Nat) : Prop :=
  IsSA t f ∧ IsSA t.reverse f2 ∧ t.length ≤ 2000 ∧ 1 ≤ rate ∧ rate ≤ 64 ∧ IndexQ w g (bs (pre t f (t.length + 1))) (endOf f (t.length + 1)) (bs (pre t.reverse f2 (t.length + 1))) (endOf f2 (t.length + 1)) rate f
theorem IxT.below {w w' : World} {g : Nat} {t : List UInt8} {rate : Nat} {f f2 : Nat → Nat} (h : IxT w g t rate f f2) (hb : Below w.heap.size w w') : IxT w' g t rate f f2 :=
  ⟨h.1, h.2.1, h.2.2.1, h.2.2.2.1, h.2.2.2.2.1, h.2.2.2.2.2.below hb⟩

/-- A side of a text, in memory. -/
def SideT (w : World) (g off : Nat) (t : List UInt8) (f : Nat → Nat) : Prop := IsSA t f ∧ t.length ≤ 2000 ∧ SideP w g off (bs (pre t f (t.length + 1))) (endOf f (t.length + 1))
theorem SideT.below {w w' : World} {g off : Nat} {t : List UInt8} {f : Nat → Nat} (h : SideT w g off t f) (hb : Below w.heap.size w w') : SideT w' g off t f := ⟨h.1, h.2.1, h.2.2.below hb⟩
theorem IxT.side {w : World} {g : Nat} {t : List UInt8} {rate : Nat} {f f2 : Nat → Nat} (h : IxT w g t rate f f2) : SideT w g 0 t f := by
  obtain ⟨h1, h2, h3, h4, h5, c1, c2, m0, m1, m2, pl, base, hk, hC1, _⟩ := h
  exact ⟨h1, h3, c1, hk.cell 0, hk.cell 1, hk.lt, hC1⟩
theorem IxT.back {w : World} {g : Nat} {t : List UInt8} {rate : Nat} {f f2 : Nat → Nat} (h : IxT w g t rate f f2) : SideT w g 2 t.reverse f2 := by
  obtain ⟨h1, h2, h3, h4, h5, c1, c2, m0, m1, m2, pl, base, hk, hC1, hC2, _⟩ := h
  refine ⟨h2, by rw [List.length_reverse]; exact h3, c2, hk.cell 2, ?_, hk.lt, ?_⟩
  · rw [List.length_reverse]; exact hk.cell 3
  · rw [List.length_reverse]; exact hC2

theorem index_txt (im : ByteArray) (w : World) : Calls Tryz.prog 29 #[.string im] w fun e w' =>
    ((Reads im ∧ ∃ g f f2, e = .returned (.tuple #[.pointer (some ⟨g, 0, none⟩), .bool true]) ∧ IxT w' g (imT im) (imR im) f f2) ∨ (¬ Reads im ∧ e = .returned (.tuple #[.pointer none, .bool false]))) ∧ Below w.heap.size w w' := by
  refine (index_any im w).mono ?_
  rintro e w' ⟨hres, hb⟩
  refine ⟨?_, hb⟩
  rcases hres with ⟨hR, g, f, hf, rfl, hQ⟩ | h
  · refine .inl ⟨hR, g, f, ?_⟩
    obtain ⟨_, hlen, hr1, hr2⟩ := reads_isImg hR w
    obtain ⟨⟨_, _, hm, hs1, hs2⟩, ⟨⟨he1, ho1⟩, ⟨he2, ho2⟩, hrev⟩, hsame⟩ := hR
    have z1 : (iS im 1).size = mSize (rBody im 0) := sText_size _ _ hs1
    have z2 : (iS im 2).size = mSize (rBody im 0) := sText_size _ _ hs2
    have l1 : (imT im).length = mSize (rBody im 0) := by rw [imT, backText_length, tx_length, z1]
    obtain ⟨f2, F2⟩ := sa_exists (bs (backText (tx (iS im 2)) (iE im 2))) w (by rw [bs_size, backText_length, tx_length, z2]; exact hm.2.1)
    rw [tx_bs] at F2
    have t1 := back_transform (by rw [tx_length]; exact he1) ho1 hf
    have t2 := back_transform (by rw [tx_length]; exact he2) ho2 F2
    rw [hrev] at F2 t2
    rw [tx_length, z1] at t1
    rw [tx_length, z2] at t2
    refine ⟨f2, rfl, hf, F2, hlen, hr1, hr2, ?_⟩
    rw [l1]
    rw [show imT im = backText (tx (iS im 1)) (iE im 1) from rfl, t1.1, t1.2, t2.1, t2.2, bs_tx, bs_tx]
    exact hQ
  · exact .inr h

theorem side_rowsT {w : World} {g off : Nat} {t : List UInt8} {f : Nat → Nat} (h : SideT w g off t f) : Calls Tryz.prog 30 #[.pointer (some ⟨g, off, none⟩)] w fun en w' => en = .returned (.int .i64 ((t.length + 1 : Nat) : Int)) ∧ w' = w := by
  obtain ⟨F, hn, h⟩ := h
  have hs := (first_str F rfl 0).1
  have := side_rows w g off _ _ h (by rw [hs]; exact hn)
  rw [hs] at this
  exact this
theorem side_rankT {w : World} {g off : Nat} {t : List UInt8} {f : Nat → Nat} (h : SideT w g off t f) (c row : Nat) (hc : c < 256) (hr : row ≤ t.length + 1) :
    Calls Tryz.prog 42 #[.pointer (some ⟨g, off, none⟩), .int .u8 (c : Int), .int .i64 (row : Int)] w fun en w' => en = .returned (.tuple #[.int .i64 ((cntI (aheadV t f) c row : Nat) : Int), .int .i64 ((lessI (aheadV t f) c row : Nat) : Int)]) ∧ Below w.heap.size w w' := by
  obtain ⟨F, hn, h⟩ := h
  have hs := (first_str F rfl 0).1
  have := side_rank w g off _ c row _ h (by rw [hs]; exact hn) (by rw [hs]; exact (sa_end F).1) hc (by rw [hs]; exact hr)
  obtain ⟨q1, q2⟩ := rank_str F rfl rfl c row hr
  rw [q1, q2] at this
  exact this
theorem side_firstT {w : World} {g off : Nat} {t : List UInt8} {f : Nat → Nat} (h : SideT w g off t f) (c : Nat) (hc : c < 256) :
    Calls Tryz.prog 43 #[.pointer (some ⟨g, off, none⟩), .int .u8 (c : Int)] w fun en w' => en = .returned (.int .i64 ((firstOf t c : Nat) : Int)) ∧ Below w.heap.size w w' := by
  obtain ⟨F, hn, h⟩ := h
  have hs := (first_str F rfl c)
  have := side_first w g off _ c _ h (by rw [hs.1]; exact hn) (by rw [hs.1]; exact (sa_end F).1) hc
  rw [hs.2] at this
  exact this

set_option maxRecDepth 10000 in
set_option maxHeartbeats 400000 in
theorem side_narrow {w : World} {g off : Nat} {t : List UInt8} {f : Nat → Nat} (h : SideT w g off t f) (lo hi c : Nat) (hc : c < 256) (hl : lo ≤ hi) (hh : hi ≤ t.length + 1) :
    Calls Tryz.prog 31 #[.pointer (some ⟨g, off, none⟩), .int .i64 (lo : Int), .int .i64 (hi : Int), .int .u8 (c : Int)] w fun en w' => en = .returned (.tuple #[.int .i64 ((mvL t f c lo : Nat) : Int), .int .i64 ((mvL t f c hi : Nat) : Int), .int .i64 ((mvP t f c lo hi : Nat) : Int)]) ∧ Below w.heap.size w w' := by
  have HR : Hid (∀ w', Below w.heap.size w w' → ∀ row, row ≤ t.length + 1 → Calls Tryz.prog 42 #[.pointer (some ⟨g, off, none⟩), .int .u8 (c : Int), .int .i64 ((row : Nat) : Int)] w' fun en w2 => en = .returned (.tuple #[.int .i64 ((cntI (aheadV t f) c row : Nat) : Int), .int .i64 ((lessI (aheadV t f) c row : Nat) : Int)]) ∧ Below w'.heap.size w' w2) := fun w' hb row hr => side_rankT (h.below hb) c row hc hr
  have HF : Hid (∀ w', Below w.heap.size w w' → Calls Tryz.prog 43 #[.pointer (some ⟨g, off, none⟩), .int .u8 (c : Int)] w' fun en w2 => en = .returned (.int .i64 ((firstOf t c : Nat) : Int)) ∧ Below w'.heap.size w' w2) := fun w' hb => side_firstT (h.below hb) c hc
  have hn := h.2.1
  clear h
  have l1 := cntI_le (aheadV t f) (c : Int) lo
  have l2 := cntI_le (aheadV t f) (c : Int) hi
  have l3 := lessI_le (aheadV t f) (c : Int) hi
  have l4 := lessI_mono (aheadV t f) (c : Int) hl
  have l5 := firstOf_le t c
  have HL : Hid (mvL t f c lo = firstOf t c + cntI (aheadV t f) c lo ∧ mvL t f c hi = firstOf t c + cntI (aheadV t f) c hi ∧ mvP t f c lo hi = lessI (aheadV t f) c hi - lessI (aheadV t f) c lo) := ⟨rfl, rfl, rfl⟩
  go_enter Tryz.func31, Tryz.ntmps31
  go_wp2_with fail
  refine Calls.mono (HR.out w (Below.refl _ _) lo (by omega)) ?_
  rintro en w1 ⟨rfl, hb1⟩
  go_wp2_with fail
  refine Calls.mono (HR.out w1 hb1 hi (by omega)) ?_
  rintro en w2 ⟨rfl, hb2⟩
  have hb12 := hb1.trans (hb2.mono hb1.size)
  clear hb1 hb2 HR
  go_wp2_with fail
  refine Calls.mono (HF.out w2 hb12) ?_
  rintro en w3 ⟨rfl, hb3⟩
  have hb13 := hb12.trans (hb3.mono hb12.size)
  clear hb12 hb3 HF
  generalize cntI (aheadV t f) (c : Int) lo = A at *
  generalize cntI (aheadV t f) (c : Int) hi = B at *
  generalize lessI (aheadV t f) (c : Int) lo = C at *
  generalize lessI (aheadV t f) (c : Int) hi = D at *
  generalize firstOf t c = E at *
  go_wp2
  go_ret3
  exact ⟨by rw [HL.out.1, HL.out.2.1, HL.out.2.2]; simp; omega, hb13⟩

end Go.Proofs.YtkebgnpifmcmaaaGreat

namespace Go.Proofs.YtkebgnpifmcmaaaGreat
open Go.RowKit

theorem below_drewN {B : Nat} {a w : World} (h : Below B a w) (n : Nat) : Below B a (w.drewN n) := ⟨h.os, h.tape, h.output, h.size, h.block⟩

end Go.Proofs.YtkebgnpifmcmaaaGreat

namespace Go.Proofs.YtkebgnpifmcmaaaGreat
open Go.RowKit

theorem enterNarrow (args : Array Value) (w : World) : (callFunc 31 args).run Tryz.prog w = .ok (.enter 31 args) w := Go.MuLone.run_callFunc_enter (P := Tryz.prog) Tryz.func31 (by kernel_rfl) rfl args w

theorem wrapI_small {n : Int} (h0 : 0 ≤ n) (h1 : n < 9223372036854775808) : IntKind.i64.wrap n = n := by
  have h2 : n % (2 ^ 64 : Int) = n := by omega
  unfold IntKind.wrap
  simp only [show IntKind.i64.bits = 64 from rfl, show IntKind.i64.signed = true from rfl, h2]
  rw [if_neg]
  simp only [Bool.true_and, decide_eq_true_eq]
  omega

/-- The pair with a byte to the left; to the right. -/
def leftV (t : List UInt8) (f : Nat → Nat) (lo hi bk c : Nat) : Value := .agg #[.int .i64 ((mvL t f c lo : Nat) : Int), .int .i64 ((mvL t f c hi : Nat) : Int), .int .i64 ((bk + mvP t f c lo hi : Nat) : Int)]
def rightV (t : List UInt8) (f2 : Nat → Nat) (lo hi bk c : Nat) : Value := .agg #[.int .i64 ((lo + mvP t f2 c bk (bk + hi - lo) : Nat) : Int), .int .i64 ((lo + mvP t f2 c bk (bk + hi - lo) + mvL t f2 c (bk + hi - lo) - mvL t f2 c bk : Nat) : Int), .int .i64 ((mvL t f2 c bk : Nat) : Int)]

theorem mvL_le (t : List UInt8) (f : Nat → Nat) (c row : Nat) : mvL t f c row ≤ t.length + 1 + row := by
  have := firstOf_le t c
  have := cntI_le (aheadV t f) (c : Int) row
  unfold mvL; omega
theorem mvP_le (t : List UInt8) (f : Nat → Nat) (c lo hi : Nat) : mvP t f c lo hi ≤ hi := by
  have := lessI_le (aheadV t f) (c : Int) hi
  unfold mvP; omega

end Go.Proofs.YtkebgnpifmcmaaaGreat

namespace Go.Proofs.YtkebgnpifmcmaaaGreat
open Go.RowKit

theorem mvL_same {t : List UInt8} {f f' : Nat → Nat} (F : IsSA t f) (F' : IsSA t f') (c row : Nat) (hr : row ≤ t.length + 1) : mvL t f c row = mvL t f' c row := by
  unfold mvL; rw [(mv_congr F F' c row hr).1]
theorem mvP_same {t : List UInt8} {f f' : Nat → Nat} (F : IsSA t f) (F' : IsSA t f') (c lo hi : Nat) (hl : lo ≤ hi) (hr : hi ≤ t.length + 1) : mvP t f c lo hi = mvP t f' c lo hi := by
  unfold mvP; rw [(mv_congr F F' c hi hr).2, (mv_congr F F' c lo (by omega)).2]

theorem zeroPair : (.agg #[.int .i64 0, .int .i64 0, .int .i64 0] : Value) = .agg #[.int .i64 0, .int .i64 0, .int .i64 0] := rfl

/-- What a call on a pair refuses. -/
def badRes (n : Nat) (w : World) (e : Ending) (w' : World) : Prop := e = .returned (.tuple #[.agg #[.int .i64 0, .int .i64 0, .int .i64 0], .int .i64 (n : Int)]) ∧ Below w.heap.size w w'

end Go.Proofs.YtkebgnpifmcmaaaGreat
