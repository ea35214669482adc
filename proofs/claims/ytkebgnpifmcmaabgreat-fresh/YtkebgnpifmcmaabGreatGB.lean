import Derived.Test.YtkebgnpifmcmaabGreatGA
import Derived.Laws.IdiomStrings
import Derived.Laws.BytesArg
import Derived.Laws.Tables
import Derived.Laws.Rows
namespace Go.Proofs.YtkebgnpifmcmaabGreat
open Go.RowKit

def bs (l : List UInt8) : ByteArray := ⟨l.toArray⟩
theorem tx_bs (l : List UInt8) : tx (bs l) = l := by simp [tx, bs]
theorem bs_tx (s : ByteArray) : bs (tx s) = s := by simp [tx, bs]
theorem bs_size (l : List UInt8) : (bs l).size = l.length := by simp [bs, ByteArray.size]
theorem bs_inj {a b : List UInt8} (h : bs a = bs b) : a = b := by rw [← tx_bs a, ← tx_bs b, h]
def BL (l : List UInt8) : List Value := l.map (fun b => Value.int .u8 (b.toNat : Int))
theorem BL_length (l : List UInt8) : (BL l).length = l.length := by simp [BL]

theorem own_below {w w' : World} {base : Nat} {e : TypeId} {v : Value} {n : Nat} {xs : List Value} (h : w.ownsRow base e 1 v n xs) (hb : Below w.heap.size w w') : w'.ownsRow base e 1 v n xs := by
  refine ⟨h.1, ?_⟩
  rcases h.2 with hn | ⟨g, cap, cur, rfl, hbs, hg, rest⟩
  · exact .inl hn
  · exact .inr ⟨g, cap, cur, rfl, hbs, (hb.block g (Array.getElem?_eq_some_iff.1 hg).1).trans hg, rest⟩

theorem row_ne_own {w : World} {base g n m : Nat} {e e' : TypeId} {F : Nat → Value} {v : Value} {xs : List Value} (h : Row w g e n F) (ho : w.ownsRow base e' 1 v m xs) (hne : e ≠ e') : some g ≠ v.ownBlock := by
  intro x
  obtain ⟨cur, hg, _⟩ := h
  rcases ho.2 with ⟨rfl, _⟩ | ⟨g', cap, cur', rfl, _, hg', _⟩
  · cases x
  · simp only [Value.ownBlock, Option.some.injEq] at x
    subst x
    rw [hg] at hg'
    simp only [Option.some.injEq, Obj.cells.injEq] at hg'
    exact hne hg'.2.1

/-- 'string(b)', b the call's own. -/
theorem conv_own {w : World} {base : Nat} {v : Value} {l : List UInt8} (h : w.ownsRow base 5 1 v l.length (BL l)) : (convert 75 9 v).run Tryz.prog w = .ok (.string (bs l)) w := by
  rcases h.2 with ⟨hv, h0⟩ | ⟨g, cap, cur, hv, hbs, hg, hnc, hcm, hcs, htake⟩
  · have : l = [] := List.length_eq_zero_iff.1 h0
    subst this
    rw [hv, run_convert_bytes_nil w 75 5 Tryz.underlying75 Tryz.underlying5 0 0 9 Tryz.underlying9]
    rfl
  · subst hv
    exact run_convert_bytes_back w 75 9 5 ⟨g, 0, none⟩ cap l Tryz.underlying75 Tryz.underlying5 Tryz.underlying9 (fun j hj => by
      have h1 := h.cellAt j (by omega)
      have h2 : (⟨g, 0, none⟩ : Addr).add j = ⟨g, j, none⟩ := by
        unfold Addr.add
        by_cases e : j = 0
        · simp [e]
        · simp [e]
      rw [h2, h1]; simp [BL, hj])

def endOf (f : Nat → Nat) : Nat → Nat
  | 0 => 0
  | k + 1 => if f k = 0 then k else endOf f k
def pre (t : List UInt8) (f : Nat → Nat) : Nat → List UInt8
  | 0 => []
  | k + 1 => pre t f k ++ (if f k = 0 then [] else [t.getD (f k - 1) 0])
theorem endOf_le (f : Nat → Nat) (k : Nat) : endOf f k ≤ k := by
  induction k with
  | zero => exact Nat.le_refl _
  | succ k ih => simp only [endOf]; split <;> omega
theorem pre_length (t : List UInt8) (f : Nat → Nat) (k : Nat) : (pre t f k).length ≤ k := by
  induction k with
  | zero => simp [pre]
  | succ k ih => simp only [pre]; split <;> simp <;> omega
theorem pre_zero {t : List UInt8} {f : Nat → Nat} {k : Nat} (h : f k = 0) : pre t f (k + 1) = pre t f k := by simp [pre, h]
theorem pre_next {t : List UInt8} {f : Nat → Nat} {k : Nat} (h : f k ≠ 0) : pre t f (k + 1) = pre t f k ++ [t.getD (f k - 1) 0] := by simp [pre, h]
theorem BL_snoc (l : List UInt8) (b : UInt8) : BL l ++ [.int .u8 (b.toNat : Int)] = BL (l ++ [b]) := by simp [BL]
theorem pre_congr {t : List UInt8} {f g : Nat → Nat} {k : Nat} (h : ∀ j, j < k → f j = g j) : pre t f k = pre t g k ∧ endOf f k = endOf g k := by
  induction k with
  | zero => exact ⟨rfl, rfl⟩
  | succ k ih =>
    have := ih (fun j hj => h j (by omega))
    simp only [pre, endOf, h k (by omega), this.1, this.2, and_self]
theorem tx_getD (s : ByteArray) (i : Nat) (h : i < s.size) : (tx s).getD i 0 = s[i] := by
  rw [List.getD_eq_getElem?_getD, List.getElem?_eq_getElem (by rw [tx_length]; exact h), Option.getD_some, tx_get s i h]; rfl

set_option maxRecDepth 10000 in
set_option maxHeartbeats 1000000 in
theorem of_any (s : ByteArray) (w : World) (hn : s.size ≤ 2000) :
    Calls Tryz.prog 67 #[.string s] w fun e w' => ∃ f, IsSA (tx s) f ∧ e = .returned (.tuple #[.string (bs (pre (tx s) f (s.size + 1))), .int .i64 ((endOf f (s.size + 1) : Nat) : Int)]) ∧ Below w.heap.size w w' := by
  obtain ⟨i0, hi, hz0, hz1, hz2⟩ := info_parts Tryz.info5
  go_enter Tryz.func67, Tryz.ntmps67
  go_wp2_with (at_make; refine wpList_make_own _ rfl _ _ 75 rfl w.heap.size 5 i0 (.int .u8 0) 1 Tryz.underlying75 hi hz0 hz1 .i64 .i64 _ s.size rfl rfl (by omega) (by rw [hz2]; omega) (by unfold maxLen; omega) (by omega) ?_; intro w1 hown hgr)
  have hb1 := below_made hgr
  have hsz1 := hgr.size
  clear hgr
  refine (sort_any s _ hn).mono ?_
  rintro e w2 ⟨f, ⟨g, cap, rfl, _, _, hg, hr, hb2⟩, hsa⟩
  have hown2 := own_below hown hb2
  have hb12 := hb1.trans (hb2.mono hsz1)
  have hgw : w.heap.size ≤ g := by omega
  have HSA : Hid (IsSA (tx s) f) := hsa
  have hne : g ≠ w.heap.size := by
    have := (hown.lt w.heap.size rfl).2
    omega
  clear hown hb1 hb2 hsa hsz1
  go_wp2_with fail
  go_loopw [4, 5, 14, 6, 7] (fun v e i _ _ wr => ∃ k : Nat, k ≤ s.size + 1 ∧ i = .int .i64 (k : Int) ∧ e = .int .i64 ((endOf f k : Nat) : Int) ∧ wr.ownsRow w.heap.size 5 1 v (pre (tx s) f k).length (BL (pre (tx s) f k)) ∧ Below w.heap.size w wr ∧ Row wr g 3 (s.size + 1) (IN f)) (fun _ _ i _ _ _ => s.size + 1 - (intOf i).toNat)
  case atStart => exact ⟨0, Nat.zero_le _, rfl, rfl, hown2, hb12, hr⟩
  case round =>
    clear hown2 hb12 hr
    obtain ⟨k, hk, rfl, rfl, hown, hb, hr⟩ := hrel
    have hpl := pre_length (tx s) f k
    by_cases hlt : k < s.size + 1
    · have hcf := hr.cell hlt
      rw [IN_at] at hcf
      have hfk := HSA.out.le k (by rw [tx_length]; omega)
      rw [tx_length] at hfk
      by_cases h0 : f k = 0
      · have hb0 : ((f k : Int) == 0) = true := by simp [h0]
        have HN : Hid (pre (tx s) f (k + 1) = pre (tx s) f k ∧ endOf f (k + 1) = k) := ⟨pre_zero h0, by simp [endOf, h0]⟩
        clear h0
        go_wp2
        go_roundw
        case rel => exact ⟨k + 1, by omega, by go_num, by rw [HN.out.2], by rw [HN.out.1]; exact hown, hb, hr⟩
        case measure => simp [intOf]; omega
      · have hb0 : ((f k : Int) == 0) = false := by simp; omega
        have hpos : 0 < f k := by omega
        have hidx : f k - 1 < s.size := by omega
        have HN : Hid (pre (tx s) f (k + 1) = pre (tx s) f k ++ [s[f k - 1]] ∧ endOf f (k + 1) = endOf f k) := ⟨by rw [pre_next h0, tx_getD s _ hidx], by simp [endOf, h0]⟩
        clear h0
        have hsz := hb.size
        go_wp2_with (at_builtin; refine wpList_append_own _ rfl (.tmp 22) (.tmp 27) 75 rfl w.heap.size 5 i0 (.int .u8 0) 1 1 Tryz.underlying75 hi hz0 hz1 hz2 rfl (by decide) u4 (pre (tx s) f k).length _ rfl (hown.alloc _) ⟨wr.heap.size, 0, none⟩ 1 1 [.int .u8 ((s[f k - 1]).toNat : Int)] rfl rfl (cell_one_new _ _ _) (by simp; rfl) (by unfold maxLen; omega) (by omega) (by simp; omega) ?_; intro v' w1 hown1 hgr1 _)
        have hb1 : Below w.heap.size w w1 := (hb.alloc hsz _).grown hgr1 (by simp; omega) (fun k hk => (hown.lt k hk).1)
        have hr1 : Row w1 g 3 (s.size + 1) (IN f) := (hr.alloc _).grown hgr1 (row_ne_own hr hown (by decide))
        rw [BL_snoc] at hown1
        have hown1' : w1.ownsRow w.heap.size 5 1 v' (pre (tx s) f (k + 1)).length (BL (pre (tx s) f (k + 1))) := by
          rw [HN.out.1, List.length_append]; exact hown1
        go_roundw
        case rel => exact ⟨k + 1, by omega, by go_num, by rw [HN.out.2], hown1', hb1, hr1⟩
        case measure => simp [intOf]; omega
    · have hkn : k = s.size + 1 := by omega
      subst hkn
      have hcv := conv_own hown
      go_wp2
      go_ret2
      exact ⟨f, HSA.out, rfl, hb⟩

end Go.Proofs.YtkebgnpifmcmaabGreat

namespace Go.Proofs.YtkebgnpifmcmaabGreat
open Go.RowKit

def aheadV (t : List UInt8) (f : Nat → Nat) (j : Nat) : Int := if f j = 0 then -1 else ((t.getD (f j - 1) 0).toNat : Int)
theorem aheadV_zero {t : List UInt8} {f : Nat → Nat} {j : Nat} (h : f j = 0) : aheadV t f j = -1 := by simp [aheadV, h]
theorem aheadV_pos {t : List UInt8} {f : Nat → Nat} {j : Nat} (h : f j ≠ 0) : aheadV t f j = ((t.getD (f j - 1) 0).toNat : Int) := by simp [aheadV, h]

theorem upd_upd {α : Type} (f : Nat → α) (j : Nat) (x y : α) : upd (upd f j x) j y = upd f j y := by
  funext i; unfold upd; split <;> rfl

set_option maxRecDepth 10000 in
set_option maxHeartbeats 1000000 in
theorem ahead_any (s : ByteArray) (w : World) (hn : s.size ≤ 2000) :
    Calls Tryz.prog 68 #[.string s] w fun e w' => ∃ f g cap, IsSA (tx s) f ∧ e = .returned (.slice (some ⟨g, 0, none⟩) (s.size + 1) cap) ∧ w.heap.size ≤ g ∧ Row w' g 3 (s.size + 1) (II (aheadV (tx s) f)) ∧ Below w.heap.size w w' := by
  obtain ⟨i0, hi, hz0, hz1, hz2⟩ := info_parts Tryz.info3
  go_enter Tryz.func68, Tryz.ntmps68
  go_wp2_with fail
  refine (rows_any s _ hn).mono ?_
  rintro e w1 ⟨f, ⟨g, cap, rfl, _, _, hg, hr, hb1⟩, hsa⟩
  have hsz1 := hb1.size
  go_wp2_with (at_make; refine wpList_make_full _ rfl _ _ 32 rfl w1.heap.size 3 i0 (.int .i64 0) 1 Tryz.underlying32 hi hz0 hz1 .i64 .i64 _ _ (s.size + 1) rfl rfl (by omega) (by omega) (by rw [hz2]; omega) (by unfold maxLen; omega) (by omega) ?_; intro w2 hown hgr)
  have hrow := Row.made hown
  have hb2 := hb1.grown hgr hsz1 (fun _ h => by cases h)
  have hr2 := hr.grown hgr (by simp)
  have hglt := hr.lt
  have HSA : Hid (IsSA (tx s) f) := hsa
  obtain ⟨G, hG⟩ : ∃ G, G = w1.heap.size := ⟨_, rfl⟩
  rw [← hG] at hrow hglt hsz1 ⊢
  clear hown hgr hr hb1 hG hsa
  go_loopw [5] (fun i wr => ∃ k : Nat, k ≤ s.size + 1 ∧ i = .int .i64 (k : Int) ∧ (∃ a, Row wr G 3 (s.size + 1) (II a) ∧ Hid (∀ j, j < k → a j = aheadV (tx s) f j)) ∧ Row wr g 3 (s.size + 1) (IN f) ∧ Below w.heap.size w wr) (fun i _ => s.size + 1 - (intOf i).toNat)
  case atStart => exact ⟨0, Nat.zero_le _, rfl, ⟨fun _ => 0, hrow, fun j hj => by omega⟩, hr2, hb2⟩
  case round =>
    clear hrow hr2 hb2
    obtain ⟨k, hk, rfl, ⟨a, ha, HA⟩, hr, hb⟩ := hrel
    by_cases hlt : k < s.size + 1
    · have hca := ha.cell hlt
      have hfz := ha.free k
      have hcf := hr.cell hlt
      rw [IN_at] at hcf
      rw [II_at] at hca
      have hfk := HSA.out.le k (by rw [tx_length]; omega)
      rw [tx_length] at hfk
      by_cases h0 : f k = 0
      · have HN : Hid (aheadV (tx s) f k = -1) := aheadV_zero h0
        have hle : ¬ (0 : Int) < (f k : Int) := by omega
        clear h0
        go_wp2
        go_roundw
        case rel => exact ⟨k + 1, by omega, by go_num, ⟨_, ha.setI k (-1), upd_next HA.out HN.out.symm⟩, hr.setOther (by simp; omega) _, hb.setCell (by simp; omega) _⟩
        case measure => simp [intOf]; omega
      · have hpos : 0 < f k := by omega
        have hidx : f k - 1 < s.size := by omega
        have HN : Hid (aheadV (tx s) f k = ((s[f k - 1]).toNat : Int)) := by show aheadV (tx s) f k = _; rw [aheadV_pos h0, tx_getD s _ hidx]
        have hw := wrap64_byte s[f k - 1]
        have hby := (s[f k - 1]).toNat_lt
        clear h0
        go_wp2
        go_roundw
        case rel => exact ⟨k + 1, by omega, by go_num, ⟨_, (ha.setI k (-1)).setI k _, by rw [upd_upd]; exact upd_next HA.out HN.out.symm⟩, (hr.setOther (by simp; omega) _).setOther (by simp; omega) _, (hb.setCell (by simp; omega) _).setCell (by simp; omega) _⟩
        case measure => simp [intOf]; omega
    · go_wp2
      go_ret
      exact ⟨f, G, _, HSA.out, rfl, by omega, ha.congr (fun j hj => by simp only [II, HA.out j (show j < k by omega)]), hb⟩

set_option maxRecDepth 10000 in
set_option maxHeartbeats 1000000 in
theorem refTransform_ok (s : ByteArray) (w : World) (hn : s.size ≤ 2000) :
    Calls Tryz.prog 45 #[.string s] w fun e w' => ∃ f, IsSA (tx s) f ∧ e = .returned (.tuple #[.string (bs (pre (tx s) f (s.size + 1))), .int .i64 ((endOf f (s.size + 1) : Nat) : Int), .int .i64 0]) ∧ Below w.heap.size w w' := by
  obtain ⟨i0, hi, hz0, hz1, hz2⟩ := info_parts Tryz.info5
  go_enter Tryz.func45, Tryz.ntmps45
  go_wp2_with fail
  refine (ahead_any s _ hn).mono ?_
  rintro e w1 ⟨f, g, cap, hsa, rfl, hg, hr, hb1⟩
  have hsz1 := hb1.size
  go_wp2_with (at_make; refine wpList_make_own _ rfl _ _ 75 rfl w1.heap.size 5 i0 (.int .u8 0) 1 Tryz.underlying75 hi hz0 hz1 .i64 .i64 _ s.size rfl rfl (by omega) (by rw [hz2]; omega) (by unfold maxLen; omega) (by omega) ?_; intro w2 hown hgr)
  have hb2 := hb1.grown hgr hsz1 (fun _ h => by cases h)
  have hr2 := hr.grown hgr (by simp)
  have hsz2 := hb2.size
  have hown2 : w2.ownsRow w.heap.size 5 1 (.slice (some ⟨w1.heap.size, 0, none⟩) 0 s.size) 0 [] := by
    rcases hown.2 with h | ⟨g', cap', cur, h1, h2, h3⟩
    · exact ⟨hown.1, .inl h⟩
    · exact ⟨hown.1, .inr ⟨g', cap', cur, h1, by omega, h3⟩⟩
  have HSA : Hid (IsSA (tx s) f) := hsa
  clear hown hgr hr hb1 hsa
  go_loopw [6, 7, 8] (fun v e i wr => ∃ k : Nat, k ≤ s.size + 1 ∧ i = .int .i64 (k : Int) ∧ e = .int .i64 ((endOf f k : Nat) : Int) ∧ wr.ownsRow w.heap.size 5 1 v (pre (tx s) f k).length (BL (pre (tx s) f k)) ∧ Below w.heap.size w wr ∧ Row wr g 3 (s.size + 1) (II (aheadV (tx s) f))) (fun _ _ i _ => s.size + 1 - (intOf i).toNat)
  case atStart => exact ⟨0, Nat.zero_le _, rfl, rfl, hown2, hb2, hr2⟩
  case round =>
    clear hown2 hb2 hr2
    obtain ⟨k, hk, rfl, rfl, hown, hb, hr⟩ := hrel
    have hpl := pre_length (tx s) f k
    by_cases hlt : k < s.size + 1
    · have hcf := hr.cell hlt
      rw [II_at] at hcf
      have hfk := HSA.out.le k (by rw [tx_length]; omega)
      rw [tx_length] at hfk
      by_cases h0 : f k = 0
      · have HN : Hid (pre (tx s) f (k + 1) = pre (tx s) f k ∧ endOf f (k + 1) = k) := ⟨pre_zero h0, by simp [endOf, h0]⟩
        rw [aheadV_zero h0] at hcf
        clear h0
        go_wp2
        go_roundw
        case rel => exact ⟨k + 1, by omega, by go_num, by rw [HN.out.2], by rw [HN.out.1]; exact hown, hb, hr⟩
        case measure => simp [intOf]; omega
      · have hpos : 0 < f k := by omega
        have hidx : f k - 1 < s.size := by omega
        have HN : Hid (pre (tx s) f (k + 1) = pre (tx s) f k ++ [s[f k - 1]] ∧ endOf f (k + 1) = endOf f k) := ⟨by rw [pre_next h0, tx_getD s _ hidx], by simp [endOf, h0]⟩
        rw [aheadV_pos h0, tx_getD s _ hidx] at hcf
        have hby := (s[f k - 1]).toNat_lt
        generalize hc : s[f k - 1] = c at *
        have HC : Hid (s[f k - 1] = c) := hc
        clear h0 hc
        have hsz := hb.size
        go_wp2_with (at_builtin; refine wpList_append_own _ rfl (.tmp 29) (.tmp 35) 75 rfl w.heap.size 5 i0 (.int .u8 0) 1 1 Tryz.underlying75 hi hz0 hz1 hz2 rfl (by decide) u6 (pre (tx s) f k).length _ rfl (hown.alloc _) ⟨wr.heap.size, 0, none⟩ 1 1 [.int .u8 (c.toNat : Int)] rfl rfl (cell_one_new _ _ _) (by simp; rfl) (by unfold maxLen; omega) (by omega) (by simp; omega) ?_; intro v' w1 hown1 hgr1 _)
        have hb1 : Below w.heap.size w w1 := (hb.alloc hsz _).grown hgr1 (by simp; omega) (fun k hk => (hown.lt k hk).1)
        have hr1 : Row w1 g 3 (s.size + 1) (II (aheadV (tx s) f)) := (hr.alloc _).grown hgr1 (row_ne_own hr hown (by decide))
        rw [BL_snoc] at hown1
        have hown1' : w1.ownsRow w.heap.size 5 1 v' (pre (tx s) f (k + 1)).length (BL (pre (tx s) f (k + 1))) := by
          rw [HN.out.1, List.length_append]; exact hown1
        go_roundw
        case rel => exact ⟨k + 1, by omega, by go_num, by rw [HN.out.2], hown1', hb1, hr1⟩
        case measure => simp [intOf]; omega
    · have hkn : k = s.size + 1 := by omega
      subst hkn
      have hcv := conv_own hown
      go_wp2
      go_ret3
      exact ⟨f, HSA.out, rfl, hb⟩

set_option maxRecDepth 10000 in
set_option maxHeartbeats 400000 in
theorem refTransform_long (s : ByteArray) (w : World) (hm : s.size ≤ maxLen) (hn : 2000 < s.size) :
    Calls Tryz.prog 45 #[.string s] w fun e w' => e = .returned (.tuple #[.string ByteArray.empty, .int .i64 0, .int .i64 1]) ∧ w' = w := by
  unfold maxLen at hm
  go_enter Tryz.func45, Tryz.ntmps45
  go_wp2_with fail
  go_ret3
  exact ⟨rfl, rfl⟩
set_option maxRecDepth 10000 in
set_option maxHeartbeats 400000 in
theorem transform_long (s : ByteArray) (w : World) (hm : s.size ≤ maxLen) (hn : 2000 < s.size) :
    Calls Tryz.prog 44 #[.string s] w fun e w' => e = .returned (.tuple #[.string ByteArray.empty, .int .i64 0, .int .i64 1]) ∧ w' = w := by
  unfold maxLen at hm
  go_enter Tryz.func44, Tryz.ntmps44
  go_wp2_with fail
  go_ret3
  exact ⟨rfl, rfl⟩
set_option maxRecDepth 10000 in
set_option maxHeartbeats 400000 in
theorem transform_ok (s : ByteArray) (w : World) (hn : s.size ≤ 2000) :
    Calls Tryz.prog 44 #[.string s] w fun e w' => ∃ f, IsSA (tx s) f ∧ e = .returned (.tuple #[.string (bs (pre (tx s) f (s.size + 1))), .int .i64 ((endOf f (s.size + 1) : Nat) : Int), .int .i64 0]) ∧ Below w.heap.size w w' := by
  go_enter Tryz.func44, Tryz.ntmps44
  go_wp2_with (go_at_call 67; refine (of_any s _ hn).mono ?_; rintro e w1 ⟨f, hsa, rfl, hb⟩)
  go_ret3
  exact ⟨f, hsa, rfl, hb⟩

end Go.Proofs.YtkebgnpifmcmaabGreat

namespace Go.Proofs.YtkebgnpifmcmaabGreat
open Go.RowKit

/-- An array of 256 numbers, by a function. -/
def A256 (f : Nat → Nat) : Array Value := (Array.range 256).map (IN f)
theorem A256_size (f : Nat → Nat) : (A256 f).size = 256 := by simp [A256]
theorem A256_get (f : Nat → Nat) (j : Nat) (h : j < 256) : (A256 f)[j]? = some (.int .i64 (f j : Int)) := by simp [A256, h, IN]
theorem A256_set (f : Nat → Nat) (j x : Nat) : (A256 f).setIfInBounds j (.int .i64 (x : Int)) = A256 (upd f j x) := by
  apply Array.ext_getElem?
  intro i
  rw [Array.getElem?_setIfInBounds]
  by_cases e : j = i
  · subst e
    rw [if_pos rfl, A256_size]
    by_cases h : j < 256
    · rw [if_pos h, A256_get _ _ h, upd_at]
    · rw [if_neg h]; symm; rw [Array.getElem?_eq_none_iff, A256_size]; omega
  · rw [if_neg e]
    by_cases h : i < 256
    · rw [A256_get _ _ h, A256_get _ _ h, upd_ne _ _ _ (fun h => e h.symm)]
    · have h1 : (A256 f)[i]? = none := by rw [Array.getElem?_eq_none_iff, A256_size]; omega
      have h2 : (A256 (upd f j x))[i]? = none := by rw [Array.getElem?_eq_none_iff, A256_size]; omega
      rw [h1, h2]
theorem A256_one (f : Nat → Nat) : (A256 f).all (·.oneCell') = true := by
  rw [Array.all_eq_true_iff_forall_mem]
  intro v hv
  simp only [A256, Array.mem_map] at hv
  obtain ⟨j, _, rfl⟩ := hv
  rfl

def Arr (w : World) (g : Nat) (f : Nat → Nat) : Prop := w.heap[g]? = some (.cells (A256 f) 192 (0, 0))
theorem Arr.lt {w : World} {g : Nat} {f : Nat → Nat} (h : Arr w g f) : g < w.heap.size := (Array.getElem?_eq_some_iff.1 h).1
theorem Arr.cell {w : World} {g : Nat} {f : Nat → Nat} (h : Arr w g f) {j : Nat} (hj : j < 256) : w.cell? ⟨g, j, none⟩ = some (.int .i64 (f j : Int)) := by
  rw [cell_of_row w g j _ _ _ h, A256_get f j hj]
theorem Arr.free {w : World} {g : Nat} {f : Nat → Nat} (h : Arr w g f) (j : Nat) : w.frozen? ⟨g, j, none⟩ = false := frozen_of_row w g j _ _ h
theorem Arr.set {w : World} {g : Nat} {f : Nat → Nat} (h : Arr w g f) (j x : Nat) : Arr (w.setCell ⟨g, j, none⟩ (.int .i64 (x : Int))) g (upd f j x) := by
  unfold Arr; rw [heap_setCell_same w g j _ _ _ h, A256_set]
theorem Arr.block {w w' : World} {g : Nat} {f : Nat → Nat} (h : Arr w g f) (hb : w'.heap[g]? = w.heap[g]?) : Arr w' g f := hb.trans h
theorem Arr.setOther {w : World} {g : Nat} {f : Nat → Nat} (h : Arr w g f) {a : Addr} (ha : g ≠ a.block) (u : Value) : Arr (w.setCell a u) g f := h.block (Below.heap_setCell w a u g ha)
theorem Arr.alloc {w : World} {g : Nat} {f : Nat → Nat} (h : Arr w g f) (o : Obj) : Arr (w.alloc o) g f := h.block (Below.heap_alloc w o g h.lt)
theorem Arr.new (w : World) : Arr (w.alloc (.cells (A256 (fun _ => 0)) 192)) w.heap.size (fun _ => 0) := heap_alloc_new w _
theorem Arr.setRow {w : World} {g : Nat} {f : Nat → Nat} (h : Arr w g f) (f' : Nat → Nat) : Arr (w.setRow g (A256 f')) g f' := setRow_heap w g _ _ _ _ h
theorem Arr.setRowOther {w : World} {g g' : Nat} {f : Nat → Nat} (h : Arr w g f) (hne : g ≠ g') (cs : Array Value) : Arr (w.setRow g' cs) g f := h.block (setRow_other w g' g cs hne)
theorem below_setRow' {B : Nat} {a w : World} (h : Below B a w) {g : Nat} (hg : B ≤ g) (cs : Array Value) : Below B a (w.setRow g cs) :=
  h.trans ⟨rfl, rfl, rfl, by simp, fun k hk => setRow_other w g k cs (by omega)⟩

theorem Tryz.info256 : (Tryz.prog.info? 192).map (fun i => (i.zero, i.size)) = some (some (.agg (A256 (fun _ => 0))), 256) := by kernel_rfl
theorem info256_size : (Tryz.prog.info? 192).map (·.size) = some 256 := by kernel_rfl

theorem run_alloc_arr (w : World) : (Instr.alloc 192 true (.tuple #[])).run Tryz.prog w = .ok (.pointer (some ⟨w.heap.size, 0, none⟩)) (w.alloc (.cells (A256 (fun _ => 0)) 192)) := by
  cases hq : Tryz.prog.info? 192 with
  | none => have := Tryz.info256; rw [hq] at this; cases this
  | some i =>
    have h := Tryz.info256
    rw [hq] at h
    simp only [Option.map_some, Option.some.injEq, Prod.mk.injEq] at h
    have hz := h.1
    simp [Instr.alloc, zeroValue, typeInfo, hq, hz, newVar, newRow, Value.cells]

theorem wpList_alloc_arr {ops : Array Oper} {rest : List Oper} {o : Oper} {a : Act} {w : World} {Q : Exit → Act → World → Prop} (hg : o.guard = none) (ho : o.op = .alloc 192)
    (h : wpList Tryz.prog ops Q rest (a.put o.dst (.pointer (some ⟨w.heap.size, 0, none⟩))) (w.alloc (.cells (A256 (fun _ => 0)) 192))) : wpList Tryz.prog ops Q (o :: rest) a w := by
  refine wpList_plain hg fun K hK => ?_
  unfold Oper.wp
  simp only [execOp, ho, Sem.run_bind, Sem.run_pure, run_alloc_arr, Result.andThen]
  exact hK _ _ h

theorem run_index_arr (w : World) (f : Nat → Nat) (k : Nat) (hk : k < 256) : (Instr.index 192 (.agg (A256 f)) (.int .i64 (k : Int))).run Tryz.prog w = .ok (.int .i64 (f k : Int)) w := by
  obtain ⟨i0, hi, _, hz1, _⟩ := info_parts Tryz.info3
  simp [Instr.index, asIntOf, run_underlying Tryz.underlying192, run_underlying Tryz.underlying3, part, isAgg, sizeOf, typeInfo, hi, hz1, A256_get f k hk]
  omega

/-- The bytes of a string, as numbers. -/
def byN (s : ByteArray) (i : Nat) : Nat := if h : i < s.size then (s[i]).toNat else 0
theorem byN_lt (s : ByteArray) (i : Nat) (h : i < s.size) : byN s i = (s[i]).toNat := by simp [byN, h]
theorem byN_256 (s : ByteArray) (i : Nat) : byN s i < 256 := by
  unfold byN; split
  · exact (s[i]).toNat_lt
  · omega

set_option maxRecDepth 100000 in
set_option maxHeartbeats 1000000 in
theorem firstRows_any (s : ByteArray) (w : World) (hn : s.size ≤ 2000) :
    Calls Tryz.prog 153 #[.string s] w fun e w' => ∃ F, (∀ c, c < 256 → F c = 1 + less (byN s) c s.size) ∧ e = .returned (.agg (A256 F)) ∧ Below w.heap.size w w' := by
  go_enter Tryz.func153, Tryz.ntmps153
  go_wp2_with (refine wpList_alloc_arr rfl rfl ?_)
  have a0 : Arr (((w.alloc (.cells (A256 fun _ => 0) 192)).alloc (.cells (A256 fun _ => 0) 192)).alloc (.cells (A256 fun _ => 0) 192)) w.heap.size (fun _ => 0) := ((Arr.new w).alloc _).alloc _
  have a1 : Arr (((w.alloc (.cells (A256 fun _ => 0) 192)).alloc (.cells (A256 fun _ => 0) 192)).alloc (.cells (A256 fun _ => 0) 192)) (w.heap.size + 1) (fun _ => 0) := by
    have := (Arr.new (w.alloc (.cells (A256 fun _ => 0) 192))).alloc (.cells (A256 fun _ => 0) 192)
    simpa using this
  have a2 : Arr (((w.alloc (.cells (A256 fun _ => 0) 192)).alloc (.cells (A256 fun _ => 0) 192)).alloc (.cells (A256 fun _ => 0) 192)) (w.heap.size + 1 + 1) (fun _ => 0) := by
    have := Arr.new ((w.alloc (.cells (A256 fun _ => 0) 192)).alloc (.cells (A256 fun _ => 0) 192))
    simpa using this
  have hbel : Below w.heap.size w (((w.alloc (.cells (A256 fun _ => 0) 192)).alloc (.cells (A256 fun _ => 0) 192)).alloc (.cells (A256 fun _ => 0) 192)) := (((Below.refl _ _).alloc (Nat.le_refl _) _).alloc (by simp) _).alloc (by simp; omega) _
  generalize ((w.alloc (.cells (A256 fun _ => 0) 192)).alloc (.cells (A256 fun _ => 0) 192)).alloc (.cells (A256 fun _ => 0) 192) = W0 at *
  go_loopw [11, 5] (fun i _ wr => ∃ k : Nat, k ≤ s.size ∧ i = .int .i64 (k : Int) ∧ (∃ cf, Arr wr (w.heap.size + 1) cf ∧ Hid (∀ c, cf c = cnt (byN s) c k)) ∧ Arr wr w.heap.size (fun _ => 0) ∧ Arr wr (w.heap.size + 1 + 1) (fun _ => 0) ∧ Below w.heap.size w wr) (fun i _ _ => s.size - (intOf i).toNat)
  case atStart => exact ⟨0, Nat.zero_le _, rfl, ⟨_, a1, fun c => rfl⟩, a0, a2, hbel⟩
  case round =>
    clear a0 a1 a2 hbel
    obtain ⟨k, hk, rfl, ⟨cf, hcf, HC⟩, ha0, ha2, hb⟩ := hrel
    by_cases hlt : k < s.size
    · have hby := (s[k]).toNat_lt
      have hc1 := hcf.cell hby
      have hfz := hcf.free (s[k]).toNat
      have hle : cf (s[k]).toNat ≤ s.size := by rw [HC.out]; have := cnt_le (byN s) (s[k]).toNat k; omega
      go_wp2
      go_roundw
      case rel =>
        refine ⟨k + 1, by omega, by go_num, ⟨_, hcf.set (s[k]).toNat (cf (s[k]).toNat + 1), fun c => ?_⟩, ha0.setOther (by simp) _, ha2.setOther (by simp) _, hb.setCell (by simp) _⟩
        have hbk := byN_lt s k hlt
        by_cases e : c = (s[k]).toNat
        · subst e; rw [upd_at, HC.out, cnt_succ, if_pos hbk]
        · rw [upd_ne _ _ _ e, HC.out, cnt_other _ _ _ (by rw [hbk]; exact fun h => e h.symm)]
      case measure => simp [intOf]; omega
    · have hkn : k = s.size := by omega
      have HC2 : Hid (∀ c, cf c = cnt (byN s) c s.size) := by rw [← hkn]; exact HC
      clear HC hkn
      go_wp2_with (refine wpList_load_row rfl 192 (.tmp 3) rfl (w.heap.size + 1) rfl 192 (A256 cf) (0, 0) _ hcf Tryz.underlying192 rfl (by rw [A256_size]; exact info256_size) ?_)
      go_loopw [23, 6, 7, 8] (fun i r _ _ wr => ∃ c : Nat, c ≤ 256 ∧ i = .int .i64 (c : Int) ∧ r = .int .i64 ((1 + less (byN s) c s.size : Nat) : Int) ∧ (∃ F, Arr wr (w.heap.size + 1 + 1) F ∧ Hid (∀ j, j < c → F j = 1 + less (byN s) j s.size)) ∧ Arr wr w.heap.size (fun _ => 0) ∧ Below w.heap.size w wr) (fun i _ _ _ _ => 256 - (intOf i).toNat)
      case atStart => exact ⟨0, by omega, rfl, by rw [less_zero]; rfl, ⟨_, ha2, fun j hj => by omega⟩, ha0, hb⟩
      case round =>
        clear hcf ha0 ha2 hb
        obtain ⟨c, hc, rfl, rfl, ⟨F, hF, HF⟩, ha0, hb⟩ := hrel
        have hl1 := less_le (byN s) c s.size
        by_cases hlt2 : c < 256
        · have hc1 := hF.cell hlt2
          have hfz := hF.free c
          have hix := fun ww => run_index_arr ww cf c hlt2
          have hle : cf c ≤ s.size := by rw [HC2.out]; exact cnt_le _ _ _
          have HN : Hid (1 + less (byN s) (c + 1) s.size = 1 + less (byN s) c s.size + cf c) := by show 1 + less (byN s) (c + 1) s.size = _; rw [less_succ, HC2.out]; omega
          go_wp2
          go_roundw
          case rel => exact ⟨c + 1, by omega, by go_num, by rw [HN.out]; go_num, ⟨_, hF.set c (1 + less (byN s) c s.size), upd_next HF.out rfl⟩, ha0.setOther (by show w.heap.size ≠ w.heap.size + 1 + 1; omega) _, hb.setCell (by show w.heap.size ≤ w.heap.size + 1 + 1; omega) _⟩
          case measure => simp [intOf]; omega
        · have hc256 : c = 256 := by omega
          have HF2 : Hid (∀ j, j < 256 → F j = 1 + less (byN s) j s.size) := by rw [← hc256]; exact HF
          clear HF hc256
          go_wp2_with (first | (refine wpList_load_row rfl 192 (.tmp 4) rfl (w.heap.size + 1 + 1) rfl 192 (A256 F) (0, 0) _ hF Tryz.underlying192 rfl (by rw [A256_size]; exact info256_size) ?_) | (refine wpList_store_row rfl 192 (.tmp 2) (.tmp 34) rfl w.heap.size (A256 F) rfl rfl 192 (A256 fun _ => 0) ha0 (by rw [A256_size]; exact info256_size) (by rw [A256_size, A256_size]) (A256_one F) ?_))
          exact bodyPost_ret (v := .agg (A256 F)) (results_cell_row (P := Tryz.prog) rfl _ _ w.heap.size 192 (A256 F) (0, 0) _ rfl (ha0.setRow F) Tryz.underlying192 rfl (by rw [A256_size]; exact info256_size)) rfl ⟨F, HF2.out, rfl, below_setRow' hb (Nat.le_refl _) _⟩

/-- One step of the ranks. -/
theorem ranks_step {b nx rows : Nat → Nat} {n k K : Nat} (hbk : b k < K) (h : ∀ c, c < K → nx c = 1 + less b c n + cnt b c k) (h2 : ∀ j, j < k → rows j = 1 + rk b n j) :
    (∀ c, c < K → upd nx (b k) (nx (b k) + 1) c = 1 + less b c n + cnt b c (k + 1)) ∧ ∀ j, j < k + 1 → upd rows k (nx (b k)) j = 1 + rk b n j := by
  refine ⟨fun c hc => ?_, ?_⟩
  · by_cases e : c = b k
    · subst e; rw [upd_at, cnt_same, h _ hc]; omega
    · rw [upd_ne _ _ _ e, cnt_other _ _ _ (fun h => e h.symm), h c hc]
  · refine upd_next (φ := fun j => 1 + rk b n j) h2 ?_
    show nx (b k) = 1 + rk b n k
    rw [h _ hbk]; unfold rk; omega

set_option maxRecDepth 100000 in
set_option maxHeartbeats 1000000 in
theorem rowsBegunBy_any (s : ByteArray) (w : World) (hn : s.size ≤ 2000) :
    Calls Tryz.prog 135 #[.string s] w fun e w' => NewN w w' e s.size (fun j => 1 + rk (byN s) s.size j) := by
  obtain ⟨i0, hi, hz0, hz1, hz2⟩ := info_parts Tryz.info3
  go_enter Tryz.func135, Tryz.ntmps135
  go_wp2_with fail
  refine (firstRows_any s _ hn).mono ?_
  rintro e w1 ⟨F, hF, rfl, hb1⟩
  have HF : Hid (∀ c, c < 256 → F c = 1 + less (byN s) c s.size + cnt (byN s) c 0) := fun c hc => by rw [hF c hc]; rfl
  clear hF
  have hsz1 := hb1.size
  have an := (Arr.new w1).setRow F
  have ann := Arr.new w1
  have hb2 := below_setRow' (hb1.alloc hsz1 (.cells (A256 fun _ => 0) 192)) hsz1 (A256 F)
  go_wp2_with (first | (at_make; refine wpList_make_full _ rfl _ _ 32 rfl w.heap.size 3 i0 (.int .i64 0) 1 Tryz.underlying32 hi hz0 hz1 .i64 .i64 _ _ s.size rfl rfl (by omega) (by omega) (by rw [hz2]; omega) (by unfold maxLen; omega) (by simp; omega) ?_; intro w2 hown hgr) | (refine wpList_alloc_arr rfl rfl ?_) | (refine wpList_store_row rfl 192 (.tmp 3) (.tmp 8) rfl w1.heap.size (A256 F) rfl rfl 192 (A256 fun _ => 0) ann (by rw [A256_size]; exact info256_size) (by rw [A256_size, A256_size]) (A256_one F) ?_))
  have hrow := Row.made hown
  have hw1 : ((w1.alloc (.cells (A256 fun _ => 0) 192)).setRow w1.heap.size (A256 F)).heap.size = w1.heap.size + 1 := by simp
  rw [hw1] at hrow
  have hb3 := hb2.grown hgr (by rw [hw1]; omega) (fun _ h => by cases h)
  have an3 : Arr w2 w1.heap.size F := an.block (hgr.block _ (by rw [hw1]; omega) (by simp))
  clear hown hgr an ann hb1 hb2 hw1
  generalize A256 F = AF at *
  obtain ⟨G, hG⟩ : ∃ G, G = w1.heap.size := ⟨_, rfl⟩
  rw [← hG] at hrow an3 hsz1 ⊢
  clear hG
  go_loopw [14, 5, 6] (fun i _ _ wr => ∃ k : Nat, k ≤ s.size ∧ i = .int .i64 (k : Int) ∧ (∃ nx rows, Arr wr G nx ∧ Row wr (G + 1) 3 s.size (IN rows) ∧ Hid (∀ c, c < 256 → nx c = 1 + less (byN s) c s.size + cnt (byN s) c k) ∧ Hid (∀ j, j < k → rows j = 1 + rk (byN s) s.size j)) ∧ Below w.heap.size w wr) (fun i _ _ _ => s.size - (intOf i).toNat)
  case atStart => exact ⟨0, Nat.zero_le _, rfl, ⟨F, fun _ => 0, an3, hrow, HF, fun j hj => by omega⟩, hb3⟩
  case round =>
    clear an3 hrow hb3 HF
    obtain ⟨k, hk, rfl, ⟨nx, rows, hnx, hr, H1, H2⟩, hb⟩ := hrel
    by_cases hlt : k < s.size
    · have hby := (s[k]).toNat_lt
      have hbk := byN_lt s k hlt
      have R := ranks_step (rows := rows) (byN_256 s k) H1.out H2.out
      rw [hbk] at R
      have HR : Hid _ := R
      have hc1 := hnx.cell hby
      have hfz1 := hnx.free (s[k]).toNat
      have hc2 := hr.cell hlt
      have hfz2 := hr.free k
      rw [IN_at] at hc2
      have hle : nx (s[k]).toNat ≤ 1 + s.size + s.size := by
        rw [H1.out _ hby]
        have h1 := less_le (byN s) (s[k]).toNat s.size
        have h2 := cnt_le (byN s) (s[k]).toNat k
        omega
      clear R hbk
      go_wp2
      go_roundw
      case rel => exact ⟨k + 1, by omega, by go_num, ⟨_, _, (hnx.setOther (by show G ≠ G + 1; omega) _).set (s[k]).toNat (nx (s[k]).toNat + 1), (hr.setN k (nx (s[k]).toNat)).setOther (by show G + 1 ≠ G; omega) _, HR.out.1, HR.out.2⟩, (hb.setCell (by show w.heap.size ≤ G + 1; omega) _).setCell hsz1 _⟩
      case measure => simp [intOf]; omega
    · go_wp2
      go_ret
      exact ⟨G + 1, _, rfl, Nat.le_refl _, by unfold maxLen; omega, by omega, hr.congr (fun j hj => by simp only [IN, H2.out j (show j < k by omega)]), hb⟩

end Go.Proofs.YtkebgnpifmcmaabGreat

/- Transforms and the way back. Plain mathematics. -/
namespace Go.Proofs.YtkebgnpifmcmaabGreat

/-- Two one to one maps of the first n places into themselves that order the places alike are one. -/
theorem order_eq {n : Nat} {p q : Nat → Nat} (hp : ∀ i, i < n → p i < n) (hq : ∀ i, i < n → q i < n) (ip : ∀ i j, i < n → j < n → p i = p j → i = j) (iq : ∀ i j, i < n → j < n → q i = q j → i = j)
    (h : ∀ i j, i < n → j < n → (p i < p j ↔ q i < q j)) : ∀ i, i < n → p i = q i := by
  have key : ∀ v i, i < n → p i = v → q i = v := by
    intro v
    induction v using Nat.strongRecOn with
    | _ v ih =>
      intro i hi hv
      have hvn : v < n := by have := hp i hi; omega
      rcases Nat.lt_trichotomy (q i) v with d | d | d
      · exfalso
        obtain ⟨j, hj, ej⟩ := surj_of_inj n p hp ip (q i) (hq i hi)
        have := ih (q i) d j hj ej
        have := iq j i hj hi this
        subst this; omega
      · exact d
      · exfalso
        obtain ⟨j, hj, ej⟩ := surj_of_inj n q hq iq v hvn
        have h1 : p j < p i := (h j i hj hi).2 (by omega)
        have := ih (p j) (by omega) j hj rfl
        omega
  intro i hi
  exact (key (p i) i hi rfl).symm

/-- The row of a place. -/
def posOf (f : Nat → Nat) (x : Nat) : Nat → Nat
  | 0 => 0
  | k + 1 => if f k = x then k else posOf f x k
theorem posOf_at {f : Nat → Nat} {x i : Nat} : ∀ {m : Nat}, i < m → f i = x → (∀ j, j < m → f j = x → j = i) → posOf f x m = i := by
  intro m
  induction m with
  | zero => intro h; omega
  | succ m ih =>
    intro him hx hu
    simp only [posOf]
    by_cases e : f m = x
    · rw [if_pos e]; exact hu m (by omega) e
    · rw [if_neg e]
      have : i ≠ m := fun h => e (by rw [← h]; exact hx)
      exact ih (by omega) hx (fun j hj => hu j (by omega))
theorem endOf_pos (f : Nat → Nat) (m : Nat) : endOf f m = posOf f 0 m := by
  induction m with
  | zero => rfl
  | succ m ih => simp only [endOf, posOf, ih]
theorem IsSA.pos {t : List UInt8} {f : Nat → Nat} (F : IsSA t f) {x : Nat} (hx : x ≤ t.length) : posOf f x (t.length + 1) ≤ t.length ∧ f (posOf f x (t.length + 1)) = x := by
  obtain ⟨i, hi, e⟩ := F.surj hx
  have : posOf f x (t.length + 1) = i := posOf_at (by omega) e (fun j hj h => F.inj (by omega) hi (by omega))
  rw [this]; exact ⟨hi, e⟩
theorem IsSA.pos_row {t : List UInt8} {f : Nat → Nat} (F : IsSA t f) {i : Nat} (hi : i ≤ t.length) : posOf f (f i) (t.length + 1) = i :=
  posOf_at (by omega) rfl (fun j hj h => F.inj (by omega) hi h)
theorem IsSA.first {t : List UInt8} {f : Nat → Nat} (F : IsSA t f) : f 0 = t.length := by
  obtain ⟨i, hi, e⟩ := F.surj (Nat.le_refl t.length)
  by_cases h : i = 0
  · subst h; exact e
  · have := F.lt 0 i (by omega) hi
    rw [e] at this
    unfold sl at this
    rw [List.drop_length, bl_nil_right] at this; cases this

/-- Where the byte ahead of a row stands. -/
def idx (e row : Nat) : Nat := if row > e then row - 1 else row
theorem idx_lt {n e x : Nat} (hx : x ≤ n) (he : e ≤ n) (hne : x ≠ e) : idx e x < n := by unfold idx; split <;> omega
theorem idx_mono {e x y : Nat} (hx : x ≠ e) (hy : y ≠ e) : idx e x < idx e y ↔ x < y := by unfold idx; split <;> split <;> omega
theorem idx_inj {e x y : Nat} (hx : x ≠ e) (hy : y ≠ e) (h : idx e x = idx e y) : x = y := by
  have h1 := idx_mono hx hy
  have h2 := idx_mono hy hx
  omega
def unidx (e i : Nat) : Nat := if i < e then i else i + 1
theorem idx_unidx (e i : Nat) : idx e (unidx e i) = i := by unfold idx unidx; split <;> split <;> omega
theorem unidx_ne (e i : Nat) : unidx e i ≠ e := by unfold unidx; split <;> omega
theorem unidx_le {n e i : Nat} (hi : i < n) : unidx e i ≤ n := by unfold unidx; split <;> omega
theorem unidx_idx {e x : Nat} (h : x ≠ e) : unidx e (idx e x) = x := by unfold idx unidx; split <;> split <;> omega
theorem unidx_mono (e i j : Nat) : unidx e i < unidx e j ↔ i < j := by unfold unidx; split <;> split <;> omega

/-- The rows of the way back. -/
def rr (b : Nat → Nat) (n e : Nat) : Nat → Nat
  | 0 => 0
  | k + 1 => 1 + rk b n (idx e (rr b n e k))
theorem rr_succ (b : Nat → Nat) (n e k : Nat) : rr b n e (k + 1) = 1 + rk b n (idx e (rr b n e k)) := rfl
theorem rr_le {b : Nat → Nat} {n e : Nat} (he : e ≤ n) : ∀ {k : Nat}, (∀ j, j < k → rr b n e j ≠ e) → rr b n e k ≤ n := by
  intro k
  induction k with
  | zero => intro _; exact Nat.zero_le _
  | succ k ih =>
    intro h
    have h1 := ih (fun j hj => h j (by omega))
    have := rk_lt b n _ (idx_lt h1 he (h k (by omega)))
    rw [rr_succ]; omega
theorem rr_inj {b : Nat → Nat} {n e : Nat} (he : e ≤ n) (hne : ∀ j, j < n → rr b n e j ≠ e) : ∀ i j, i < j → j ≤ n → rr b n e i ≠ rr b n e j := by
  intro i
  induction i with
  | zero =>
    intro j hj _ h
    obtain ⟨q, rfl⟩ : ∃ q, j = q + 1 := ⟨j - 1, by omega⟩
    rw [rr_succ] at h
    have h0 : rr b n e 0 = 0 := rfl
    omega
  | succ i ih =>
    intro j hij hj h
    obtain ⟨q, rfl⟩ : ∃ q, j = q + 1 := ⟨j - 1, by omega⟩
    rw [rr_succ, rr_succ] at h
    have hi := rr_le (b := b) he (k := i) (fun j hj => hne j (by omega))
    have hq := rr_le (b := b) he (k := q) (fun j hj => hne j (by omega))
    have h1 := rk_inj b n (idx_lt hi he (hne i (by omega))) (idx_lt hq he (hne q (by omega))) (by omega)
    exact ih q (by omega) (by omega) (idx_inj (hne i (by omega)) (hne q (by omega)) h1)

/-- The bytes as numbers. -/
def bN (L : List UInt8) (i : Nat) : Nat := (L.getD i 0).toNat
theorem bN_lt {L : List UInt8} {i : Nat} (h : i < L.length) : bN L i = L[i].toNat := by simp [bN, List.getD_eq_getElem?_getD, h]
theorem byN_tx (s : ByteArray) (i : Nat) (h : i < s.size) : byN s i = bN (tx s) i := by
  rw [byN_lt s i h, bN_lt (by rw [tx_length]; exact h), tx_get s i h]; rfl

/-- The text of the way back. -/
def backText (L : List UInt8) (e : Nat) : List UInt8 := (List.range L.length).map fun j => L.getD (idx e (rr (bN L) L.length e (L.length - 1 - j))) 0
theorem backText_length (L : List UInt8) (e : Nat) : (backText L e).length = L.length := by simp [backText]
theorem backText_get (L : List UInt8) (e k : Nat) (h : k < L.length) (h' : L.length - 1 - k < (backText L e).length) : (backText L e)[L.length - 1 - k] = L.getD (idx e (rr (bN L) L.length e k)) 0 := by
  have q : (backText L e)[L.length - 1 - k]? = some (L.getD (idx e (rr (bN L) L.length e k)) 0) := by
    unfold backText
    rw [List.getElem?_map, List.getElem?_range (by omega), Option.map_some, show L.length - 1 - (L.length - 1 - k) = k from by omega]
  exact (List.getElem?_eq_some_iff.1 q).2

/-- The way from row 0 orders the rows as the suffixes are ordered. -/
theorem back_order {L : List UInt8} {e : Nat} (he : e ≤ L.length) (hne : ∀ j, j < L.length → rr (bN L) L.length e j ≠ e) : ∀ i j, i ≤ L.length → j ≤ L.length →
    (rr (bN L) L.length e i < rr (bN L) L.length e j ↔ sl (backText L e) (L.length - i) (L.length - j) = true) := by
  intro i
  induction i with
  | zero =>
    intro j _ hj
    have h0 : rr (bN L) L.length e 0 = 0 := rfl
    unfold sl
    rw [h0, Nat.sub_zero, List.drop_eq_nil_of_le (show (backText L e).length ≤ L.length by rw [backText_length]; exact Nat.le_refl _)]
    by_cases e0 : j = 0
    · subst e0
      rw [h0, Nat.sub_zero, List.drop_eq_nil_of_le (by rw [backText_length]; exact Nat.le_refl _)]
      exact ⟨fun h => by omega, fun h => by rw [bl_nil_right] at h; cases h⟩
    · obtain ⟨q, rfl⟩ : ∃ q, j = q + 1 := ⟨j - 1, by omega⟩
      rw [rr_succ, List.drop_eq_getElem_cons (show L.length - (q + 1) < (backText L e).length by rw [backText_length]; omega)]
      exact ⟨fun _ => rfl, fun _ => by omega⟩
  | succ i ih =>
    intro j hi hj
    by_cases e0 : j = 0
    · subst e0
      have h0 : rr (bN L) L.length e 0 = 0 := rfl
      unfold sl
      rw [h0, Nat.sub_zero, List.drop_eq_nil_of_le (show (backText L e).length ≤ L.length by rw [backText_length]; exact Nat.le_refl _), bl_nil_right]
      exact ⟨fun h => by omega, fun h => by cases h⟩
    · obtain ⟨q, rfl⟩ : ∃ q, j = q + 1 := ⟨j - 1, by omega⟩
      have li := rr_le (b := bN L) he (k := i) (fun j hj => hne j (by omega))
      have lq := rr_le (b := bN L) he (k := q) (fun j hj => hne j (by omega))
      have ni := hne i (by omega)
      have nq := hne q (by omega)
      have xi := idx_lt li he ni
      have xq := idx_lt lq he nq
      have hii := ih q (by omega) (by omega)
      rw [rr_succ, rr_succ]
      have h1 : 1 + rk (bN L) L.length (idx e (rr (bN L) L.length e i)) < 1 + rk (bN L) L.length (idx e (rr (bN L) L.length e q)) ↔
          rk (bN L) L.length (idx e (rr (bN L) L.length e i)) < rk (bN L) L.length (idx e (rr (bN L) L.length e q)) := by omega
      rw [h1, rk_lt_iff (bN L) L.length xi xq, idx_mono ni nq, hii]
      unfold sl
      rw [show L.length - (i + 1) = L.length - 1 - i from by omega, show L.length - (q + 1) = L.length - 1 - q from by omega]
      have bi : L.length - 1 - i < (backText L e).length := by rw [backText_length]; omega
      have bq : L.length - 1 - q < (backText L e).length := by rw [backText_length]; omega
      rw [List.drop_eq_getElem_cons bi, List.drop_eq_getElem_cons bq, bl_cons_iff, backText_get L e i (by omega) bi, backText_get L e q (by omega) bq,
        show L.length - 1 - i + 1 = L.length - i from by omega, show L.length - 1 - q + 1 = L.length - q from by omega]
      exact Iff.rfl

/-- If the way does not come to the END too early, it goes through the suffix array. -/
theorem back_rows {L : List UInt8} {e : Nat} (he : e ≤ L.length) (hne : ∀ j, j < L.length → rr (bN L) L.length e j ≠ e) {f : Nat → Nat} (F : IsSA (backText L e) f) : ∀ k, k ≤ L.length → f (rr (bN L) L.length e k) = L.length - k := by
  have hl := backText_length L e
  have P : ∀ x, x ≤ L.length → posOf f x (L.length + 1) ≤ L.length ∧ f (posOf f x (L.length + 1)) = x := fun x hx => by
    have := F.pos (x := x) (by rw [hl]; exact hx)
    rwa [hl] at this
  have key := order_eq (n := L.length + 1) (p := rr (bN L) L.length e) (q := fun k => posOf f (L.length - k) (L.length + 1))
    (fun i hi => by have := rr_le (b := bN L) he (k := i) (fun j hj => hne j (by omega)); omega)
    (fun i hi => by have := (P (L.length - i) (by omega)).1; show posOf f (L.length - i) (L.length + 1) < L.length + 1; omega)
    (fun i j hi hj h => by
      rcases Nat.lt_trichotomy i j with d | d | d
      · exact absurd h (rr_inj he hne i j d (by omega))
      · exact d
      · exact absurd h.symm (rr_inj he hne j i d (by omega)))
    (fun i j hi hj h => by
      have h1 := (P (L.length - i) (by omega)).2
      have h2 := (P (L.length - j) (by omega)).2
      have h3 : posOf f (L.length - i) (L.length + 1) = posOf f (L.length - j) (L.length + 1) := h
      rw [h3, h2] at h1; omega)
    (fun i j hi hj => by
      rw [back_order he hne i j (by omega) (by omega)]
      have h1 := P (L.length - i) (by omega)
      have h2 := P (L.length - j) (by omega)
      have h3 := F.lt_iff (i := posOf f (L.length - i) (L.length + 1)) (j := posOf f (L.length - j) (L.length + 1)) (by rw [hl]; exact h1.1) (by rw [hl]; exact h2.1)
      rw [h1.2, h2.2] at h3
      exact h3)
  intro k hk
  rw [key k (by omega)]
  exact (P (L.length - k) (by omega)).2
theorem back_end {L : List UInt8} {e : Nat} (he : e ≤ L.length) (hne : ∀ j, j < L.length → rr (bN L) L.length e j ≠ e) : rr (bN L) L.length e L.length = e := by
  obtain ⟨k, hk, ek⟩ := surj_of_inj (L.length + 1) (rr (bN L) L.length e) (fun i hi => by have := rr_le (b := bN L) he (k := i) (fun j hj => hne j (by omega)); omega)
    (fun i j hi hj h => by
      rcases Nat.lt_trichotomy i j with d | d | d
      · exact absurd h (rr_inj he hne i j d (by omega))
      · exact d
      · exact absurd h.symm (rr_inj he hne j i d (by omega))) e (by omega)
  by_cases h : k = L.length
  · subst h; exact ek
  · exact absurd ek (hne k (by omega))

/-- The bytes ahead of the rows, from what stands ahead of each. -/
theorem pre_take {t L : List UInt8} {f : Nat → Nat} {e : Nat} (he : e ≤ L.length) (h0 : ∀ x, x ≤ L.length → (f x = 0 ↔ x = e)) (h1 : ∀ x, x ≤ L.length → x ≠ e → t.getD (f x - 1) 0 = L.getD (idx e x) 0) :
    ∀ m, m ≤ L.length + 1 → pre t f m = L.take (if m ≤ e then m else m - 1) ∧ endOf f m = if m ≤ e then 0 else e := by
  intro m
  induction m with
  | zero => intro _; rw [if_pos (Nat.zero_le _), if_pos (Nat.zero_le _)]; exact ⟨by simp [pre], rfl⟩
  | succ m ih =>
    intro hm
    obtain ⟨i1, i2⟩ := ih (by omega)
    by_cases c : m = e
    · have z : f m = 0 := (h0 m (by omega)).2 c
      rw [pre_zero z, i1, if_pos (show m ≤ e by omega), if_neg (show ¬ m + 1 ≤ e by omega), if_neg (show ¬ m + 1 ≤ e by omega)]
      refine ⟨rfl, ?_⟩
      simp only [endOf]; rw [if_pos z]; exact c
    · have z : f m ≠ 0 := fun h => c ((h0 m (by omega)).1 h)
      have hg := h1 m (by omega) c
      have hil := idx_lt (show m ≤ L.length by omega) he c
      rw [pre_next z, i1, hg]
      have hend : endOf f (m + 1) = endOf f m := by simp only [endOf]; rw [if_neg z]
      rw [hend, i2]
      by_cases d : m < e
      · rw [if_pos (show m ≤ e by omega), if_pos (show m + 1 ≤ e by omega), if_pos (show m ≤ e by omega), if_pos (show m + 1 ≤ e by omega)]
        refine ⟨?_, rfl⟩
        have hx : idx e m = m := by unfold idx; rw [if_neg (by omega)]
        rw [hx, List.take_succ_eq_append_getElem (show m < L.length by omega), List.getD_eq_getElem?_getD, List.getElem?_eq_getElem (show m < L.length by omega), Option.getD_some]
      · rw [if_neg (show ¬ m ≤ e by omega), if_neg (show ¬ m + 1 ≤ e by omega), if_neg (show ¬ m ≤ e by omega), if_neg (show ¬ m + 1 ≤ e by omega)]
        refine ⟨?_, rfl⟩
        have hx : idx e m = m - 1 := by unfold idx; rw [if_pos (by omega)]
        rw [hx, show m + 1 - 1 = (m - 1) + 1 from by omega, List.take_succ_eq_append_getElem (show m - 1 < L.length by omega), List.getD_eq_getElem?_getD, List.getElem?_eq_getElem (show m - 1 < L.length by omega), Option.getD_some]

/-- What comes back has this transform. -/
theorem back_transform {L : List UInt8} {e : Nat} (he : e ≤ L.length) (hne : ∀ j, j < L.length → rr (bN L) L.length e j ≠ e) {f : Nat → Nat} (F : IsSA (backText L e) f) :
    pre (backText L e) f (L.length + 1) = L ∧ endOf f (L.length + 1) = e := by
  have R := back_rows he hne F
  have E := back_end he hne
  have hl := backText_length L e
  have sur := surj_of_inj (L.length + 1) (rr (bN L) L.length e) (fun i hi => by have := rr_le (b := bN L) he (k := i) (fun j hj => hne j (by omega)); omega)
    (fun i j hi hj h => by
      rcases Nat.lt_trichotomy i j with d | d | d
      · exact absurd h (rr_inj he hne i j d (by omega))
      · exact d
      · exact absurd h.symm (rr_inj he hne j i d (by omega)))
  have h := pre_take (t := backText L e) (L := L) (f := f) he (fun x hx => by
      obtain ⟨k, hk, rfl⟩ := sur x (by omega)
      rw [R k (by omega)]
      constructor
      · intro h; rw [show k = L.length from by omega]; exact E
      · intro h
        by_cases c : k = L.length
        · omega
        · exact absurd h (hne k (by omega)))
    (fun x hx hxe => by
      obtain ⟨k, hk, rfl⟩ := sur x (by omega)
      have hkl : k < L.length := by
        by_cases c : k = L.length
        · subst c; exact absurd E hxe
        · omega
      rw [R k (by omega), show L.length - k - 1 = L.length - 1 - k from by omega, List.getD_eq_getElem?_getD, List.getElem?_eq_getElem (show L.length - 1 - k < (backText L e).length by rw [hl]; omega), Option.getD_some, backText_get L e k hkl])
    (L.length + 1) (Nat.le_refl _)
  rw [if_neg (by omega), if_neg (by omega)] at h
  refine ⟨?_, h.2⟩
  rw [h.1, Nat.add_sub_cancel, List.take_length]

end Go.Proofs.YtkebgnpifmcmaabGreat

namespace Go.Proofs.YtkebgnpifmcmaabGreat
open Go.RowKit

theorem byN_eq (s : ByteArray) : byN s = bN (tx s) := by
  funext i
  by_cases h : i < s.size
  · exact byN_tx s i h
  · simp [byN, bN, h, List.getD_eq_getElem?_getD, List.getElem?_eq_none (show (tx s).length ≤ i by rw [tx_length]; omega)]

theorem Row.setB {w : World} {g : Nat} {e : TypeId} {n : Nat} {f : Nat → UInt8} (h : Row w g e n (IB f)) (j : Nat) (x : UInt8) : Row (w.setCell ⟨g, j, none⟩ (.int .u8 (x.toNat : Int))) g e n (IB (upd f j x)) := by
  rw [← updV_IB]; exact h.set j _

/-- 'string(b)', b a row of bytes. -/
theorem conv_row {w : World} {g cap : Nat} {l : List UInt8} {f : Nat → UInt8} (h : Row w g 5 l.length (IB f)) (hf : ∀ j, j < l.length → f j = l.getD j 0) : (convert 75 9 (.slice (some ⟨g, 0, none⟩) l.length cap)).run Tryz.prog w = .ok (.string (bs l)) w :=
  run_convert_bytes_back w 75 9 5 ⟨g, 0, none⟩ cap l Tryz.underlying75 Tryz.underlying5 Tryz.underlying9 (fun j hj => by
    have h1 := h.cell hj
    have h2 : (⟨g, 0, none⟩ : Addr).add j = ⟨g, j, none⟩ := by
      unfold Addr.add
      by_cases e : j = 0
      · simp [e]
      · simp [e]
    rw [h2, h1, IB_at, hf j hj]
    simp [List.getD_eq_getElem?_getD, hj])

set_option maxRecDepth 10000 in
set_option maxHeartbeats 400000 in
theorem indexOfRow_any (r e : Nat) (w : World) (hr : r ≤ 3000) (he : e ≤ 3000) : Calls Tryz.prog 103 #[.int .i64 (r : Int), .int .i64 (e : Int)] w fun en w' => en = .returned (.int .i64 ((idx e r : Nat) : Int)) ∧ w = w' := by
  by_cases h : e < r
  · have hx : Hid (((idx e r : Nat) : Int) = (r : Int) - 1) := by show ((idx e r : Nat) : Int) = _; unfold idx; rw [if_pos h]; omega
    go_enter Tryz.func103, Tryz.ntmps103
    go_wp2
    go_ret
    exact ⟨by rw [hx.out]; rfl, rfl⟩
  · have hx : Hid (((idx e r : Nat) : Int) = (r : Int)) := by show ((idx e r : Nat) : Int) = _; unfold idx; rw [if_neg h]
    go_enter Tryz.func103, Tryz.ntmps103
    go_wp2
    go_ret
    exact ⟨by rw [hx.out]; rfl, rfl⟩

/-- The way back from row 0 does not come to the END too early. -/
def okBack (L : List UInt8) (e : Nat) : Prop := ∀ j, j < L.length → rr (bN L) L.length e j ≠ e

set_option maxRecDepth 10000 in
set_option maxHeartbeats 400000 in
theorem rowsIn_out (s : ByteArray) (x : Int) (w : World) (hn : s.size ≤ 2000) (hx : x < 0 ∨ (s.size : Int) < x) :
    Calls Tryz.prog 102 #[.string s, .int .i64 x] w fun en w' => en = .returned (.tuple #[.slice none 0 0, .bool false]) ∧ w' = w := by
  rcases hx with h | h
  · have hd : decide (x < 0) = true := by simpa using h
    go_enter Tryz.func102, Tryz.ntmps102
    go_wp2_with fail
    go_ret2
    exact ⟨rfl, rfl⟩
  · have hd : decide (x < 0) = false := by simp; omega
    have hd2 : decide ((s.size : Int) < x) = true := by simpa using h
    go_enter Tryz.func102, Tryz.ntmps102
    go_wp2_with fail
    go_ret2
    exact ⟨rfl, rfl⟩

/-- The row of a place's suffix, by the way back. -/
def wayRow (L : List UInt8) (e : Nat) (p : Nat) : Nat := rr (bN L) L.length e (L.length - p)

set_option maxRecDepth 10000 in
set_option maxHeartbeats 1000000 in
theorem rowsIn_any (s : ByteArray) (e : Nat) (w : World) (hn : s.size ≤ 2000) (he : e ≤ s.size) :
    Calls Tryz.prog 102 #[.string s, .int .i64 (e : Int)] w fun en w' =>
      ((okBack (tx s) e ∧ ∃ g cap, en = .returned (.tuple #[.slice (some ⟨g, 0, none⟩) (s.size + 1) cap, .bool true]) ∧ s.size + 1 ≤ cap ∧ cap ≤ maxLen ∧ w.heap.size ≤ g ∧ Row w' g 3 (s.size + 1) (IN (wayRow (tx s) e))) ∨
        (¬ okBack (tx s) e ∧ en = .returned (.tuple #[.slice none 0 0, .bool false]))) ∧ Below w.heap.size w w' := by
  obtain ⟨i0, hi, hz0, hz1, hz2⟩ := info_parts Tryz.info3
  have hl := tx_length s
  have HL : Hid ((tx s).length = s.size) := hl
  clear hl
  go_enter Tryz.func102, Tryz.ntmps102
  go_wp2_with fail
  refine (rowsBegunBy_any s _ hn).mono ?_
  rintro en w1 ⟨gl, capl, rfl, _, _, hgl, hrl, hb1⟩
  have hsz1 := hb1.size
  go_wp2_with (at_make; refine wpList_make_full _ rfl _ _ 32 rfl w1.heap.size 3 i0 (.int .i64 0) 1 Tryz.underlying32 hi hz0 hz1 .i64 .i64 _ _ (s.size + 1) rfl rfl (by omega) (by omega) (by rw [hz2]; omega) (by unfold maxLen; omega) (by omega) ?_; intro w2 hown hgr)
  have hrow := Row.made hown
  have hb2 := hb1.grown hgr hsz1 (fun _ h => by cases h)
  have hrl2 := hrl.grown hgr (by simp)
  have hllt := hrl.lt
  obtain ⟨G, hG⟩ : ∃ G, G = w1.heap.size := ⟨_, rfl⟩
  rw [← hG] at hrow hllt hsz1 ⊢
  clear hown hgr hrl hb1 hG
  go_loopw [8] (fun p wr => ∃ k : Nat, k ≤ s.size ∧ p = .int .i64 ((s.size : Int) - (k : Int)) ∧
      (∃ tf, Row wr G 3 (s.size + 1) (IN tf) ∧ Hid (∀ j, j < k + 1 → tf (s.size - j) = rr (bN (tx s)) (tx s).length e j)) ∧ Hid (∀ j, j < k → rr (bN (tx s)) (tx s).length e j ≠ e) ∧
      Row wr gl 3 s.size (IN fun j => 1 + rk (byN s) s.size j) ∧ Below w.heap.size w wr) (fun p _ => (intOf p).toNat)
  case atStart => exact ⟨0, Nat.zero_le _, by go_num, ⟨fun _ => 0, hrow, fun j hj => (by rw [show j = 0 from by omega]; rfl)⟩, fun j hj => by omega, hrl2, hb2⟩
  case round =>
    clear hrow hrl2 hb2
    obtain ⟨k, hk, rfl, ⟨tf, ht, HT⟩, HN, hr, hb⟩ := hrel
    have hrle := rr_le (b := bN (tx s)) (show e ≤ (tx s).length by rw [HL.out]; exact he) (k := k) HN.out
    have htk := HT.out k (by omega)
    by_cases hlt : k < s.size
    · have hc0 := ht.cell (show s.size - k < s.size + 1 by omega)
      rw [IN_at, htk] at hc0
      by_cases hre : rr (bN (tx s)) (tx s).length e k = e
      · have hbe : ((rr (bN (tx s)) (tx s).length e k : Int) == (e : Int)) = true := by simp [hre]
        have HX : Hid (¬ okBack (tx s) e) := fun h => h k (by rw [HL.out]; exact hlt) hre
        clear hre hrle htk
        generalize rr (bN (tx s)) (tx s).length e k = R at *
        go_wp2_with fail
        go_ret2
        exact ⟨.inr ⟨HX.out, rfl⟩, hb⟩
      · have hbe : ((rr (bN (tx s)) (tx s).length e k : Int) == (e : Int)) = false := by simp; omega
        have HNE : Hid (rr (bN (tx s)) (tx s).length e k ≠ e) := hre
        have hat : idx e (rr (bN (tx s)) (tx s).length e k) < s.size := by rw [← HL.out]; exact idx_lt hrle (by rw [HL.out]; exact he) hre
        have HR : Hid (rr (bN (tx s)) (tx s).length e (k + 1) = 1 + rk (byN s) s.size (idx e (rr (bN (tx s)) (tx s).length e k))) := by
          show rr (bN (tx s)) (tx s).length e (k + 1) = _
          rw [rr_succ, byN_eq, HL.out]
        have hrle2 : rr (bN (tx s)) (tx s).length e k ≤ s.size := Nat.le_trans hrle (Nat.le_of_eq HL.out)
        clear hre hrle htk
        generalize hRdef : rr (bN (tx s)) (tx s).length e k = R at *
        have HRD : Hid (rr (bN (tx s)) (tx s).length e k = R) := hRdef
        clear hRdef
        generalize hI : idx e R = I at *
        have HI : Hid (idx e R = I) := hI
        clear hI
        have hc1 := hr.cell hat
        rw [IN_at] at hc1
        have hc2 := ht.cell (show s.size - k - 1 < s.size + 1 by omega)
        have hfz := ht.free (s.size - k - 1)
        go_wp2_with fail
        refine (indexOfRow_any R e _ (by omega) (by omega)).mono ?_
        rintro en w3 ⟨rfl, rfl⟩
        rw [HI.out]
        go_wp2
        go_roundw
        case rel =>
          refine ⟨k + 1, by omega, by go_num, ⟨_, ht.setN (s.size - k - 1) (1 + rk (byN s) s.size I), fun j hj => ?_⟩, fun j hj => ?_, hr.setOther (by show gl ≠ G; omega) _, hb.setCell hsz1 _⟩
          · by_cases ej : j = k + 1
            · subst ej; rw [show s.size - (k + 1) = s.size - k - 1 from by omega, upd_at]; exact HR.out.symm
            · rw [upd_ne _ _ _ (by omega)]; exact HT.out j (by omega)
          · by_cases ej : j = k
            · subst ej; rw [HRD.out]; exact HNE.out
            · exact HN.out j (by omega)
        case measure => simp [intOf]; omega
    · have hkn : k = s.size := by omega
      subst hkn
      have HX : Hid (okBack (tx s) e) := fun j hj => HN.out j (by rw [← HL.out]; exact hj)
      clear hrle htk
      go_wp2
      go_ret2
      refine ⟨.inl ⟨HX.out, G, _, rfl, Nat.le_refl _, by unfold maxLen; omega, hsz1, ht.congr (fun j hj => ?_)⟩, hb⟩
      simp only [IN, wayRow]
      have := HT.out (s.size - j) (by omega)
      rw [show s.size - (s.size - j) = j from by omega] at this
      rw [this, HL.out]

set_option maxRecDepth 10000 in
set_option maxHeartbeats 400000 in
theorem restoreIn_out (s : ByteArray) (x : Int) (w : World) (hn : s.size ≤ 2000) (hx : x < 0 ∨ (s.size : Int) < x) :
    Calls Tryz.prog 69 #[.string s, .int .i64 x] w fun en w' => en = .returned (.tuple #[.string ByteArray.empty, .bool false]) ∧ w' = w := by
  go_enter Tryz.func69, Tryz.ntmps69
  go_wp2_with fail
  refine (rowsIn_out s x _ hn hx).mono ?_
  rintro en w1 ⟨rfl, rfl⟩
  go_wp2_with fail
  go_ret2
  exact ⟨rfl, rfl⟩

set_option maxRecDepth 10000 in
set_option maxHeartbeats 1000000 in
theorem restoreIn_any (s : ByteArray) (e : Nat) (w : World) (hn : s.size ≤ 2000) (he : e ≤ s.size) :
    Calls Tryz.prog 69 #[.string s, .int .i64 (e : Int)] w fun en w' =>
      ((okBack (tx s) e ∧ en = .returned (.tuple #[.string (bs (backText (tx s) e)), .bool true])) ∨ (¬ okBack (tx s) e ∧ en = .returned (.tuple #[.string ByteArray.empty, .bool false]))) ∧ Below w.heap.size w w' := by
  obtain ⟨i0, hi, hz0, hz1, hz2⟩ := info_parts Tryz.info5
  have hl := tx_length s
  have HL : Hid ((tx s).length = s.size) := hl
  clear hl
  go_enter Tryz.func69, Tryz.ntmps69
  go_wp2_with fail
  refine (rowsIn_any s e _ hn he).mono ?_
  rintro en w1 ⟨h | h, hb1⟩
  · obtain ⟨hok, gl, capl, rfl, _, _, hgl, hrl⟩ := h
    have hsz1 := hb1.size
    go_wp2_with (at_make; refine wpList_make_full _ rfl _ _ 75 rfl w1.heap.size 5 i0 (.int .u8 0) 1 Tryz.underlying75 hi hz0 hz1 .i64 .i64 _ _ s.size rfl rfl (by omega) (by omega) (by rw [hz2]; omega) (by unfold maxLen; omega) (by omega) ?_; intro w2 hown hgr)
    have hrow := Row.made hown
    have hb2 := hb1.grown hgr hsz1 (fun _ h => by cases h)
    have hrl2 := hrl.grown hgr (by simp)
    have hllt := hrl.lt
    obtain ⟨G, hG⟩ : ∃ G, G = w1.heap.size := ⟨_, rfl⟩
    rw [← hG] at hrow hllt hsz1 ⊢
    clear hown hgr hrl hb1 hG
    have HOK : Hid (okBack (tx s) e) := hok
    clear hok
    go_loopw [23, 9] (fun p _ wr => ∃ k : Nat, k ≤ s.size ∧ p = .int .i64 (k : Int) ∧
      (∃ tf, Row wr G 5 s.size (IB tf) ∧ Hid (∀ j, j < k → tf j = (tx s).getD (idx e (wayRow (tx s) e (j + 1))) 0)) ∧
      Row wr gl 3 (s.size + 1) (IN (wayRow (tx s) e)) ∧ Below w.heap.size w wr) (fun p _ _ => s.size - (intOf p).toNat)
    case atStart => exact ⟨0, Nat.zero_le _, rfl, ⟨fun _ => 0, hrow, fun j hj => by omega⟩, hrl2, hb2⟩
    case round =>
      clear hrow hrl2 hb2
      obtain ⟨k, hk, rfl, ⟨tf, ht, HT⟩, hr, hb⟩ := hrel
      by_cases hlt : k < s.size
      · have hrle : wayRow (tx s) e (k + 1) ≤ s.size := by
          have := rr_le (b := bN (tx s)) (show e ≤ (tx s).length by rw [HL.out]; exact he) (k := (tx s).length - (k + 1)) (fun j hj => HOK.out j (by omega))
          unfold wayRow; rw [HL.out] at this ⊢; exact this
        have hne : wayRow (tx s) e (k + 1) ≠ e := HOK.out _ (by rw [HL.out]; omega)
        have hat : idx e (wayRow (tx s) e (k + 1)) < s.size := by rw [← HL.out]; exact idx_lt (by rw [HL.out]; exact hrle) (by rw [HL.out]; exact he) hne
        have HG : Hid (s[idx e (wayRow (tx s) e (k + 1))] = (tx s).getD (idx e (wayRow (tx s) e (k + 1))) 0) := (tx_getD s _ hat).symm
        have hc0 := hr.cell (show k + 1 < s.size + 1 by omega)
        rw [IN_at] at hc0
        clear hne
        generalize hRdef : wayRow (tx s) e (k + 1) = R at *
        have HRD : Hid (wayRow (tx s) e (k + 1) = R) := hRdef
        clear hRdef
        generalize hI : idx e R = I at *
        have HI : Hid (idx e R = I) := hI
        clear hI
        have hc2 := ht.cell hlt
        have hfz := ht.free k
        go_wp2_with fail
        refine (indexOfRow_any R e _ (by omega) (by omega)).mono ?_
        rintro en w3 ⟨rfl, rfl⟩
        rw [HI.out]
        go_wp2
        go_roundw
        case rel =>
          refine ⟨k + 1, by omega, by go_num, ⟨_, ht.setB k s[I], upd_next HT.out ?_⟩, hr.setOther (by show gl ≠ G; omega) _, hb.setCell hsz1 _⟩
          rw [HRD.out, HI.out]; exact HG.out
        case measure => simp [intOf]; omega
      · have hkn : k = s.size := by omega
        subst hkn
        have hbl : Hid ((backText (tx s) e).length = s.size) := by show (backText (tx s) e).length = _; rw [backText_length, HL.out]
        have hcv : ∀ cap, (convert 75 9 (.slice (some ⟨G, 0, none⟩) s.size cap)).run Tryz.prog wr = .ok (.string (bs (backText (tx s) e))) wr := by
          intro cap
          rw [← hbl.out] at ht ⊢
          refine conv_row ht (fun j hj => ?_)
          rw [hbl.out] at hj
          have h1 := HT.out j hj
          have h2 := backText_get (tx s) e (s.size - 1 - j) (by rw [HL.out]; omega) (by rw [hbl.out, HL.out]; omega)
          have h3 : (tx s).length - 1 - (s.size - 1 - j) = j := by rw [HL.out]; omega
          have h4 : (tx s).length - (j + 1) = s.size - 1 - j := by rw [HL.out]; omega
          rw [h1, wayRow, h4, List.getD_eq_getElem?_getD (l := backText (tx s) e), List.getElem?_eq_getElem (show j < (backText (tx s) e).length by rw [hbl.out]; exact hj), Option.getD_some, ← h2]
          congr 1
        go_wp2
        go_ret2
        exact ⟨.inl ⟨HOK.out, rfl⟩, hb⟩
  · obtain ⟨hok, rfl⟩ := h
    go_wp2_with fail
    go_ret2
    exact ⟨.inr ⟨hok, rfl⟩, hb1⟩

end Go.Proofs.YtkebgnpifmcmaabGreat

namespace Go.Proofs.YtkebgnpifmcmaabGreat
open Go.RowKit

/-- How many of the first m bytes go ahead of the one at 'at'. -/
def cg (b : Nat → Nat) (c q m : Nat) : Nat := less b c m + cnt b c (min m q)
theorem cg_yes {b : Nat → Nat} {c q m : Nat} (h : b m < c ∨ (b m = c ∧ m < q)) : cg b c q (m + 1) = cg b c q m + 1 := by
  unfold cg
  rcases h with h | ⟨h, hq⟩
  · have h1 : less b c (m + 1) = less b c m + 1 := by simp [less, h]
    have h2 : cnt b c (min (m + 1) q) = cnt b c (min m q) := by
      by_cases e : m < q
      · rw [show min (m + 1) q = m + 1 from by omega, show min m q = m from by omega, cnt_other _ _ _ (by omega)]
      · rw [show min (m + 1) q = q from by omega, show min m q = q from by omega]
    omega
  · have h1 : less b c (m + 1) = less b c m := by simp [less, h]
    have h2 : cnt b c (min (m + 1) q) = cnt b c (min m q) + 1 := by
      rw [show min (m + 1) q = m + 1 from by omega, show min m q = m from by omega, cnt_succ, if_pos h]
    omega
theorem cg_no {b : Nat → Nat} {c q m : Nat} (h : ¬ b m < c) (h' : ¬ (b m = c ∧ m < q)) : cg b c q (m + 1) = cg b c q m := by
  unfold cg
  have h1 : less b c (m + 1) = less b c m := by simp [less, h]
  have h2 : cnt b c (min (m + 1) q) = cnt b c (min m q) := by
    by_cases e : m < q
    · rw [show min (m + 1) q = m + 1 from by omega, show min m q = m from by omega, cnt_other _ _ _ (fun x => h' ⟨x, e⟩)]
    · rw [show min (m + 1) q = q from by omega, show min m q = q from by omega]
  omega
theorem cg_le (b : Nat → Nat) (c q m : Nat) : cg b c q m ≤ m + m := by
  unfold cg
  have h1 := less_le b c m
  have h2 := cnt_le b c (min m q)
  omega
theorem cg_end {b : Nat → Nat} {q n : Nat} (h : q < n) : cg b (b q) q n = rk b n q := by
  unfold cg rk; rw [show min n q = q from by omega]

set_option maxRecDepth 10000 in
set_option maxHeartbeats 1600000 in
theorem guess_any (s : ByteArray) (e : Nat) (w : World) (hn : s.size ≤ 2000) (he : e ≤ s.size) :
    Calls Tryz.prog 70 #[.string s, .int .i64 (e : Int)] w fun en w' =>
      ((okBack (tx s) e ∧ en = .returned (.string (bs (backText (tx s) e)))) ∨ (¬ okBack (tx s) e ∧ en = .returned (.string ByteArray.empty))) ∧ Below w.heap.size w w' := by
  obtain ⟨i0, hi, hz0, hz1, hz2⟩ := info_parts Tryz.info5
  have HL : Hid ((tx s).length = s.size) := tx_length s
  go_enter Tryz.func70, Tryz.ntmps70
  go_wp2_with (at_make; refine wpList_make_full _ rfl _ _ 75 rfl w.heap.size 5 i0 (.int .u8 0) 1 Tryz.underlying75 hi hz0 hz1 .i64 .i64 _ _ s.size rfl rfl (by omega) (by omega) (by rw [hz2]; omega) (by unfold maxLen; omega) (by omega) ?_; intro w2 hown hgr)
  have hrow := Row.made hown
  have hb2 := below_made hgr
  clear hown hgr
  go_loopw [6, 8] (fun r p wr => ∃ k : Nat, k ≤ s.size ∧ p = .int .i64 ((s.size : Int) - 1 - (k : Int)) ∧ r = .int .i64 ((rr (bN (tx s)) (tx s).length e k : Nat) : Int) ∧
      (∃ tf, Row wr w.heap.size 5 s.size (IB tf) ∧ Hid (∀ j, j < k → tf (s.size - 1 - j) = (tx s).getD (idx e (rr (bN (tx s)) (tx s).length e j)) 0)) ∧ Hid (∀ j, j < k → rr (bN (tx s)) (tx s).length e j ≠ e) ∧
      Below w.heap.size w wr) (fun _ p _ => (intOf p + 1).toNat)
  case atStart => exact ⟨0, Nat.zero_le _, by go_num, rfl, ⟨fun _ => 0, hrow, fun j hj => by omega⟩, fun j hj => by omega, hb2⟩
  case round =>
    clear hrow hb2
    obtain ⟨k, hk, rfl, rfl, ⟨tf, ht, HT⟩, HN, hb⟩ := hrel
    have hrle := rr_le (b := bN (tx s)) (show e ≤ (tx s).length by rw [HL.out]; exact he) (k := k) HN.out
    by_cases hlt : k < s.size
    · by_cases hre : rr (bN (tx s)) (tx s).length e k = e
      · have hbe : ((rr (bN (tx s)) (tx s).length e k : Int) == (e : Int)) = true := by simp [hre]
        have hge : ¬ (e : Int) < (rr (bN (tx s)) (tx s).length e k : Int) := by omega
        have HX : Hid (¬ okBack (tx s) e) := fun h => h k (by rw [HL.out]; exact hlt) hre
        clear hre hrle
        generalize rr (bN (tx s)) (tx s).length e k = R at *
        go_wp2_with fail
        go_ret
        exact ⟨.inr ⟨HX.out, rfl⟩, hb⟩
      · have hbe : ((rr (bN (tx s)) (tx s).length e k : Int) == (e : Int)) = false := by simp; omega
        have HNE : Hid (rr (bN (tx s)) (tx s).length e k ≠ e) := hre
        have hat : idx e (rr (bN (tx s)) (tx s).length e k) < s.size := by rw [← HL.out]; exact idx_lt hrle (by rw [HL.out]; exact he) hre
        have HR : Hid (rr (bN (tx s)) (tx s).length e (k + 1) = 1 + rk (byN s) s.size (idx e (rr (bN (tx s)) (tx s).length e k))) := by
          show rr (bN (tx s)) (tx s).length e (k + 1) = _
          rw [rr_succ, byN_eq, HL.out]
        have HG : Hid (s[idx e (rr (bN (tx s)) (tx s).length e k)] = (tx s).getD (idx e (rr (bN (tx s)) (tx s).length e k)) 0) := (tx_getD s _ hat).symm
        have hrle2 : rr (bN (tx s)) (tx s).length e k ≤ s.size := Nat.le_trans hrle (Nat.le_of_eq HL.out)
        have hne2 : rr (bN (tx s)) (tx s).length e k < e ∨ e < rr (bN (tx s)) (tx s).length e k := by omega
        clear hre hrle
        generalize hRdef : rr (bN (tx s)) (tx s).length e k = R at *
        have HRD : Hid (rr (bN (tx s)) (tx s).length e k = R) := hRdef
        clear hRdef
        generalize hI : idx e R = I at *
        have HI : Hid (idx e R = I) := hI
        have hIR : (e < R ∧ I = R - 1) ∨ (R < e ∧ R = I) := by
          unfold idx at hI
          rcases hne2 with h | h
          · rw [if_neg (by omega)] at hI; exact .inr ⟨h, hI⟩
          · rw [if_pos h] at hI; exact .inl ⟨h, hI.symm⟩
        clear hI hne2
        have hc2 := ht.cell (show s.size - 1 - k < s.size by omega)
        have hfz := ht.free (s.size - 1 - k)
        have hby := (s[I]).toNat_lt
        have t20 : decide ((k : Int) ≤ (s.size : Int) - 1) = true := by simp; omega
        have HCE : Hid (cg (byN s) (s[I]).toNat I s.size = rk (byN s) s.size I) := by
          have := cg_end (b := byN s) hat
          rw [byN_lt s I hat] at this
          exact this
        clear hbe
        rcases hIR with ⟨hee, rfl⟩ | ⟨hee, rfl⟩
        · have t26 : decide (e < R) = true := by simp; omega
          have t36 : decide ((s.size : Int) ≤ (R : Int) - 1) = false := by simp; omega
          have t31 : ((R : Int) == (e : Int)) = false := by simp; omega
          go_wp2_with fail
          go_loopw [11, 12] (fun nx i wq => ∃ m : Nat, m ≤ s.size ∧ i = .int .i64 (m : Int) ∧ nx = .int .i64 ((1 + cg (byN s) (s[R - 1]).toNat (R - 1) m : Nat) : Int) ∧ wq = wr) (fun _ i _ => s.size - (intOf i).toNat)
          case atStart => exact ⟨0, Nat.zero_le _, rfl, rfl, rfl⟩
          case round =>
            obtain ⟨m, hm, rfl, rfl, rfl⟩ := hrel
            have hcl := cg_le (byN s) (s[R - 1]).toNat (R - 1) m
            by_cases hml : m < s.size
            · have hbm := (s[m]).toNat_lt
              have HB2 : Hid (byN s m = (s[m]).toNat) := byN_lt s m hml
              by_cases q1 : (s[m]).toNat < (s[R - 1]).toNat
              · have HS : Hid (cg (byN s) (s[R - 1]).toNat (R - 1) (m + 1) = cg (byN s) (s[R - 1]).toNat (R - 1) m + 1) := cg_yes (by rw [HB2.out]; exact .inl q1)
                go_wp2
                go_roundw
                case rel => exact ⟨m + 1, by omega, by go_num, by rw [HS.out]; try go_num, by first | rfl | trivial⟩
                case measure => simp [intOf]; omega
              · by_cases q2 : (s[m]).toNat = (s[R - 1]).toNat
                · have d2 : (((s[m]).toNat : Int) == ((s[R - 1]).toNat : Int)) = true := by simp; omega
                  by_cases q3 : m < R - 1
                  · have HS : Hid (cg (byN s) (s[R - 1]).toNat (R - 1) (m + 1) = cg (byN s) (s[R - 1]).toNat (R - 1) m + 1) := cg_yes (by rw [HB2.out]; exact .inr ⟨q2, q3⟩)
                    clear q2
                    go_wp2
                    go_roundw
                    case rel => exact ⟨m + 1, by omega, by go_num, by rw [HS.out]; try go_num, by first | rfl | trivial⟩
                    case measure => simp [intOf]; omega
                  · have HS : Hid (cg (byN s) (s[R - 1]).toNat (R - 1) (m + 1) = cg (byN s) (s[R - 1]).toNat (R - 1) m) := cg_no (by rw [HB2.out]; exact q1) (by rw [HB2.out]; exact fun h => q3 h.2)
                    clear q2
                    go_wp2
                    go_roundw
                    case rel => exact ⟨m + 1, by omega, by go_num, by rw [HS.out]; try go_num, by first | rfl | trivial⟩
                    case measure => simp [intOf]; omega
                · have d2 : (((s[m]).toNat : Int) == ((s[R - 1]).toNat : Int)) = false := by simp; omega
                  have HS : Hid (cg (byN s) (s[R - 1]).toNat (R - 1) (m + 1) = cg (byN s) (s[R - 1]).toNat (R - 1) m) := cg_no (by rw [HB2.out]; exact q1) (by rw [HB2.out]; exact fun h => q2 h.1)
                  clear q2
                  go_wp2
                  go_roundw
                  case rel => exact ⟨m + 1, by omega, by go_num, by rw [HS.out]; try go_num, by first | rfl | trivial⟩
                  case measure => simp [intOf]; omega
            · have hmn : m = s.size := by omega
              subst hmn
              go_wp2
              go_roundw
              case rel =>
                refine ⟨k + 1, by omega, by go_num, by rw [HR.out, HCE.out], ⟨_, ht.setB (s.size - 1 - k) s[R - 1], fun j hj => ?_⟩, fun j hj => ?_, hb.setCell (Nat.le_refl _) _⟩
                · by_cases ej : j = k
                  · subst ej; rw [upd_at, HRD.out, HI.out]; exact HG.out
                  · rw [upd_ne _ _ _ (by omega)]; exact HT.out j (by omega)
                · by_cases ej : j = k
                  · subst ej; rw [HRD.out]; exact HNE.out
                  · exact HN.out j (by omega)
              case measure => simp [intOf]; omega
        · have t26 : decide (e < R) = false := by simp; omega
          have t36 : decide (s.size ≤ R) = false := by simp; omega
          have t31 : ((R : Int) == (e : Int)) = false := by simp; omega
          go_wp2_with fail
          go_loopw [11, 12] (fun nx i wq => ∃ m : Nat, m ≤ s.size ∧ i = .int .i64 (m : Int) ∧ nx = .int .i64 ((1 + cg (byN s) (s[R]).toNat (R) m : Nat) : Int) ∧ wq = wr) (fun _ i _ => s.size - (intOf i).toNat)
          case atStart => exact ⟨0, Nat.zero_le _, rfl, rfl, rfl⟩
          case round =>
            obtain ⟨m, hm, rfl, rfl, rfl⟩ := hrel
            have hcl := cg_le (byN s) (s[R]).toNat (R) m
            by_cases hml : m < s.size
            · have hbm := (s[m]).toNat_lt
              have HB2 : Hid (byN s m = (s[m]).toNat) := byN_lt s m hml
              by_cases q1 : (s[m]).toNat < (s[R]).toNat
              · have HS : Hid (cg (byN s) (s[R]).toNat (R) (m + 1) = cg (byN s) (s[R]).toNat (R) m + 1) := cg_yes (by rw [HB2.out]; exact .inl q1)
                go_wp2
                go_roundw
                case rel => exact ⟨m + 1, by omega, by go_num, by rw [HS.out]; try go_num, by first | rfl | trivial⟩
                case measure => simp [intOf]; omega
              · by_cases q2 : (s[m]).toNat = (s[R]).toNat
                · have d2 : (((s[m]).toNat : Int) == ((s[R]).toNat : Int)) = true := by simp; omega
                  by_cases q3 : m < R
                  · have HS : Hid (cg (byN s) (s[R]).toNat (R) (m + 1) = cg (byN s) (s[R]).toNat (R) m + 1) := cg_yes (by rw [HB2.out]; exact .inr ⟨q2, q3⟩)
                    clear q2
                    go_wp2
                    go_roundw
                    case rel => exact ⟨m + 1, by omega, by go_num, by rw [HS.out]; try go_num, by first | rfl | trivial⟩
                    case measure => simp [intOf]; omega
                  · have HS : Hid (cg (byN s) (s[R]).toNat (R) (m + 1) = cg (byN s) (s[R]).toNat (R) m) := cg_no (by rw [HB2.out]; exact q1) (by rw [HB2.out]; exact fun h => q3 h.2)
                    clear q2
                    go_wp2
                    go_roundw
                    case rel => exact ⟨m + 1, by omega, by go_num, by rw [HS.out]; try go_num, by first | rfl | trivial⟩
                    case measure => simp [intOf]; omega
                · have d2 : (((s[m]).toNat : Int) == ((s[R]).toNat : Int)) = false := by simp; omega
                  have HS : Hid (cg (byN s) (s[R]).toNat (R) (m + 1) = cg (byN s) (s[R]).toNat (R) m) := cg_no (by rw [HB2.out]; exact q1) (by rw [HB2.out]; exact fun h => q2 h.1)
                  clear q2
                  go_wp2
                  go_roundw
                  case rel => exact ⟨m + 1, by omega, by go_num, by rw [HS.out]; try go_num, by first | rfl | trivial⟩
                  case measure => simp [intOf]; omega
            · have hmn : m = s.size := by omega
              subst hmn
              go_wp2
              go_roundw
              case rel =>
                refine ⟨k + 1, by omega, by go_num, by rw [HR.out, HCE.out], ⟨_, ht.setB (s.size - 1 - k) s[R], fun j hj => ?_⟩, fun j hj => ?_, hb.setCell (Nat.le_refl _) _⟩
                · by_cases ej : j = k
                  · subst ej; rw [upd_at, HRD.out, HI.out]; exact HG.out
                  · rw [upd_ne _ _ _ (by omega)]; exact HT.out j (by omega)
                · by_cases ej : j = k
                  · subst ej; rw [HRD.out]; exact HNE.out
                  · exact HN.out j (by omega)
              case measure => simp [intOf]; omega
    · have hkn : k = s.size := by omega
      subst hkn
      have hbl : Hid ((backText (tx s) e).length = s.size) := by show (backText (tx s) e).length = _; rw [backText_length, HL.out]
      have hcv : ∀ cap, (convert 75 9 (.slice (some ⟨w.heap.size, 0, none⟩) s.size cap)).run Tryz.prog wr = .ok (.string (bs (backText (tx s) e))) wr := by
        intro cap
        rw [← hbl.out] at ht ⊢
        refine conv_row ht (fun j hj => ?_)
        rw [hbl.out] at hj
        have h1 := HT.out (s.size - 1 - j) (by omega)
        rw [show s.size - 1 - (s.size - 1 - j) = j from by omega] at h1
        have h2 := backText_get (tx s) e (s.size - 1 - j) (by rw [HL.out]; omega) (by rw [hbl.out, HL.out]; omega)
        have h3 : (tx s).length - 1 - (s.size - 1 - j) = j := by rw [HL.out]; omega
        rw [h1, List.getD_eq_getElem?_getD (l := backText (tx s) e), List.getElem?_eq_getElem (show j < (backText (tx s) e).length by rw [hbl.out]; exact hj), Option.getD_some, ← h2]
        congr 1
      have HX : Hid (okBack (tx s) e) := fun j hj => HN.out j (by rw [← HL.out]; exact hj)
      clear hrle
      generalize rr (bN (tx s)) (tx s).length e s.size = R at *
      go_wp2
      go_ret
      exact ⟨.inl ⟨HX.out, rfl⟩, hb⟩

end Go.Proofs.YtkebgnpifmcmaabGreat

namespace Go.Proofs.YtkebgnpifmcmaabGreat
open Go.RowKit

set_option maxRecDepth 10000 in
set_option maxHeartbeats 400000 in
theorem restore_long (s : ByteArray) (x : Int) (w : World) (hm : s.size ≤ maxLen) (hn : 2000 < s.size) :
    Calls Tryz.prog 46 #[.string s, .int .i64 x] w fun e w' => e = .returned (.tuple #[.string ByteArray.empty, .int .i64 1]) ∧ w' = w := by
  unfold maxLen at hm
  go_enter Tryz.func46, Tryz.ntmps46
  go_wp2_with fail
  go_ret2
  exact ⟨rfl, rfl⟩
set_option maxRecDepth 10000 in
set_option maxHeartbeats 400000 in
theorem restore_out (s : ByteArray) (x : Int) (w : World) (hn : s.size ≤ 2000) (hx : x < 0 ∨ (s.size : Int) < x) :
    Calls Tryz.prog 46 #[.string s, .int .i64 x] w fun e w' => e = .returned (.tuple #[.string ByteArray.empty, .int .i64 3]) ∧ w' = w := by
  go_enter Tryz.func46, Tryz.ntmps46
  go_wp2_with fail
  refine (restoreIn_out s x _ hn hx).mono ?_
  rintro e w1 ⟨rfl, rfl⟩
  go_wp2_with fail
  go_ret2
  exact ⟨rfl, rfl⟩
set_option maxRecDepth 10000 in
set_option maxHeartbeats 400000 in
theorem restore_in (s : ByteArray) (e : Nat) (w : World) (hn : s.size ≤ 2000) (he : e ≤ s.size) :
    Calls Tryz.prog 46 #[.string s, .int .i64 (e : Int)] w fun en w' =>
      ((okBack (tx s) e ∧ en = .returned (.tuple #[.string (bs (backText (tx s) e)), .int .i64 0])) ∨ (¬ okBack (tx s) e ∧ en = .returned (.tuple #[.string ByteArray.empty, .int .i64 3]))) ∧ Below w.heap.size w w' := by
  go_enter Tryz.func46, Tryz.ntmps46
  go_wp2_with fail
  refine (restoreIn_any s e _ hn he).mono ?_
  rintro en w1 ⟨⟨hok, rfl⟩ | ⟨hok, rfl⟩, hb⟩
  · have HX : Hid (okBack (tx s) e) := hok
    clear hok
    go_wp2_with fail
    go_ret2
    exact ⟨.inl ⟨HX.out, rfl⟩, hb⟩
  · have HX : Hid (¬ okBack (tx s) e) := hok
    clear hok
    go_wp2_with fail
    go_ret2
    exact ⟨.inr ⟨HX.out, rfl⟩, hb⟩

set_option maxRecDepth 10000 in
set_option maxHeartbeats 400000 in
theorem refRestore_long (s : ByteArray) (x : Int) (w : World) (hm : s.size ≤ maxLen) (hn : 2000 < s.size) :
    Calls Tryz.prog 47 #[.string s, .int .i64 x] w fun e w' => e = .returned (.tuple #[.string ByteArray.empty, .int .i64 1]) ∧ w' = w := by
  unfold maxLen at hm
  go_enter Tryz.func47, Tryz.ntmps47
  go_wp2_with fail
  go_ret2
  exact ⟨rfl, rfl⟩
set_option maxRecDepth 10000 in
set_option maxHeartbeats 400000 in
theorem refRestore_out (s : ByteArray) (x : Int) (w : World) (hn : s.size ≤ 2000) (hx : x < 0 ∨ (s.size : Int) < x) :
    Calls Tryz.prog 47 #[.string s, .int .i64 x] w fun e w' => e = .returned (.tuple #[.string ByteArray.empty, .int .i64 3]) ∧ w' = w := by
  rcases hx with h | h
  · have hd : decide (x < 0) = true := by simpa using h
    go_enter Tryz.func47, Tryz.ntmps47
    go_wp2_with fail
    go_ret2
    exact ⟨rfl, rfl⟩
  · have hd : decide (x < 0) = false := by simp; omega
    have hd2 : decide ((s.size : Int) < x) = true := by simpa using h
    go_enter Tryz.func47, Tryz.ntmps47
    go_wp2_with fail
    go_ret2
    exact ⟨rfl, rfl⟩
set_option maxRecDepth 10000 in
set_option maxHeartbeats 400000 in
theorem refRestore_in (s : ByteArray) (e : Nat) (w : World) (hn : s.size ≤ 2000) (he : e ≤ s.size) :
    Calls Tryz.prog 47 #[.string s, .int .i64 (e : Int)] w fun en w' =>
      ((okBack (tx s) e ∧ en = .returned (.tuple #[.string (bs (backText (tx s) e)), .int .i64 0])) ∨ (¬ okBack (tx s) e ∧ en = .returned (.tuple #[.string ByteArray.empty, .int .i64 3]))) ∧ Below w.heap.size w w' := by
  have hd : decide ((e : Int) < 0) = false := by simp
  have hd2 : decide ((s.size : Int) < (e : Int)) = false := by simp; omega
  go_enter Tryz.func47, Tryz.ntmps47
  go_wp2_with fail
  refine (guess_any s e _ hn he).mono ?_
  rintro en w1 ⟨⟨hok, rfl⟩ | ⟨hok, rfl⟩, hb⟩
  · have HX : Hid (okBack (tx s) e) := hok
    have hbl : (bs (backText (tx s) e)).size = s.size := by rw [bs_size, backText_length, tx_length]
    have hbl2 : (bs (backText (tx s) e)).size ≤ 2000 := by omega
    have HB : Hid _ := hbl
    clear hok hbl
    go_wp2_with fail
    refine (refTransform_ok (bs (backText (tx s) e)) _ hbl2).mono ?_
    rintro en w2 ⟨f, hsa, rfl, hb2⟩
    rw [tx_bs] at hsa
    have T := back_transform (L := tx s) (e := e) (by rw [tx_length]; exact he) HX.out hsa
    rw [tx_bs, HB.out]
    rw [tx_length] at T
    rw [T.1, T.2, bs_tx]
    have hbb := hb.trans (hb2.mono hb.size)
    clear T hsa hb hb2
    go_wp2_with fail
    go_ret2
    exact ⟨.inl ⟨HX.out, rfl⟩, hbb⟩
  · have HX : Hid (¬ okBack (tx s) e) := hok
    have hpos : 0 < s.size := by
      rcases Nat.eq_zero_or_pos s.size with h | h
      · exact absurd (fun j hj => by rw [tx_length] at hj; omega) hok
      · exact h
    clear hok
    go_wp2_with fail
    refine (refTransform_ok ByteArray.empty _ (by decide)).mono ?_
    rintro en w2 ⟨f, hsa, rfl, hb2⟩
    have f0 : f 0 = 0 := Nat.le_zero.1 (hsa.le 0 (Nat.zero_le _))
    have p0 : pre (tx ByteArray.empty) f (ByteArray.empty.size + 1) = [] := by
      show pre (tx ByteArray.empty) f (0 + 1) = []
      rw [pre_zero f0]; rfl
    rw [p0]
    have hne : ¬ (bs []).toList = s.toList := by
      rw [Lib.toList_data, Lib.toList_data]
      intro h
      have : s.size = 0 := by rw [← tx_length]; unfold tx; rw [← h]; rfl
      omega
    have hbb := hb.trans (hb2.mono hb.size)
    clear p0 f0 hsa hb hb2
    generalize endOf f (ByteArray.empty.size + 1) = E
    go_wp2_with fail
    go_ret2
    exact ⟨.inr ⟨HX.out, rfl⟩, hbb⟩

end Go.Proofs.YtkebgnpifmcmaabGreat

namespace Go.Proofs.YtkebgnpifmcmaabGreat
open Go.RowKit

/-- The bytes of 'aba'. -/
def aba : List UInt8 := [97, 98, 97]
def abaSA : Nat → Nat
  | 0 => 3
  | 1 => 2
  | 2 => 0
  | _ => 1
theorem aba_sa : IsSA aba abaSA := by
  refine ⟨fun i hi => ?_, fun i j hij hj => ?_⟩
  · have : aba.length = 3 := rfl
    have h : i = 0 ∨ i = 1 ∨ i = 2 ∨ i = 3 := by omega
    rcases h with rfl | rfl | rfl | rfl <;> decide
  · have : aba.length = 3 := rfl
    have h : (i = 0 ∧ j = 1) ∨ (i = 0 ∧ j = 2) ∨ (i = 0 ∧ j = 3) ∨ (i = 1 ∧ j = 2) ∨ (i = 1 ∧ j = 3) ∨ (i = 2 ∧ j = 3) := by omega
    rcases h with ⟨rfl, rfl⟩ | ⟨rfl, rfl⟩ | ⟨rfl, rfl⟩ | ⟨rfl, rfl⟩ | ⟨rfl, rfl⟩ | ⟨rfl, rfl⟩ <;> decide
theorem aba_pre : pre aba abaSA 4 = aba ∧ endOf abaSA 4 = 2 := by decide
theorem aba_ok : okBack aba 2 := by
  intro j hj
  have : aba.length = 3 := rfl
  have h : j = 0 ∨ j = 1 ∨ j = 2 := by omega
  rcases h with rfl | rfl | rfl <;> decide
theorem aba_back : backText aba 2 = aba := by decide

set_option maxRecDepth 10000 in
set_option maxHeartbeats 400000 in
theorem short_any (s : ByteArray) (n : Int) (w : World) (h0 : 0 ≤ n) (hn : n ≤ 3000) (_hs : s.size ≤ maxLen) :
    Calls Tryz.prog 14 #[.string s, .int .i64 n] w fun e w' => ∃ s', e = .returned (.string s') ∧ (s'.size : Int) ≤ n ∧ w = w' := by
  unfold maxLen at _hs
  obtain ⟨m, rfl⟩ := Int.eq_ofNat_of_zero_le h0
  by_cases h : (m : Int) < (s.size : Int)
  · have hm : m ≤ s.size := by omega
    go_enter Tryz.func14, Tryz.ntmps14
    go_wp2
    go_ret
    exact ⟨_, rfl, by simp; omega, rfl⟩
  · go_enter Tryz.func14, Tryz.ntmps14
    go_wp2
    go_ret
    exact ⟨_, rfl, by omega, rfl⟩

end Go.Proofs.YtkebgnpifmcmaabGreat

/- From a transform back to its text. Plain mathematics. -/
namespace Go.Proofs.YtkebgnpifmcmaabGreat

/-- What stands where in the bytes ahead of the rows. -/
theorem pre_facts {t : List UInt8} {f : Nat → Nat} {e n : Nat} (h0 : ∀ x, x ≤ n → (f x = 0 ↔ x = e)) : ∀ m, m ≤ n + 1 →
    (pre t f m).length = (if m ≤ e then m else m - 1) ∧ ∀ x, x < m → x ≠ e → (pre t f m).getD (idx e x) 0 = t.getD (f x - 1) 0 := by
  intro m
  induction m with
  | zero => intro _; exact ⟨by simp [pre], fun x hx => by omega⟩
  | succ m ih =>
    intro hm
    obtain ⟨i1, i2⟩ := ih (by omega)
    by_cases c : m = e
    · have z : f m = 0 := (h0 m (by omega)).2 c
      rw [pre_zero z]
      refine ⟨by rw [i1, if_pos (show m ≤ e by omega), if_neg (show ¬ m + 1 ≤ e by omega)]; omega, fun x hx hxe => i2 x (by omega) hxe⟩
    · have z : f m ≠ 0 := fun h => c ((h0 m (by omega)).1 h)
      rw [pre_next z]
      have hidx : idx e m = (pre t f m).length := by
        rw [i1]; unfold idx
        by_cases d : m > e
        · rw [if_pos d, if_neg (by omega)]
        · rw [if_neg d, if_pos (by omega)]
      refine ⟨?_, fun x hx hxe => ?_⟩
      · rw [List.length_append, i1, List.length_singleton]
        by_cases d : m ≤ e
        · rw [if_pos d, if_pos (show m + 1 ≤ e by omega)]
        · rw [if_neg d, if_neg (show ¬ m + 1 ≤ e by omega)]; omega
      · by_cases ex : x = m
        · subst ex
          rw [hidx, List.getD_eq_getElem?_getD, List.getElem?_append_right (Nat.le_refl _), Nat.sub_self]; rfl
        · have hlt : idx e x < (pre t f m).length := by
            rw [← hidx]; exact (idx_mono hxe c).2 (by omega)
          rw [← i2 x (by omega) hxe, List.getD_eq_getElem?_getD, List.getElem?_append_left hlt, ← List.getD_eq_getElem?_getD]

theorem sa_end {t : List UInt8} {f : Nat → Nat} (F : IsSA t f) : endOf f (t.length + 1) ≤ t.length ∧ f (endOf f (t.length + 1)) = 0 := by
  rw [endOf_pos]; exact F.pos (Nat.zero_le _)
theorem sa_zero {t : List UInt8} {f : Nat → Nat} (F : IsSA t f) (x : Nat) (hx : x ≤ t.length) : f x = 0 ↔ x = endOf f (t.length + 1) := by
  have h := sa_end F
  constructor
  · intro e; exact F.inj hx h.1 (by rw [e, h.2])
  · intro e; rw [e]; exact h.2
theorem bwt_length {t : List UInt8} {f : Nat → Nat} (F : IsSA t f) : (pre t f (t.length + 1)).length = t.length := by
  have h := (pre_facts (t := t) (sa_zero F) (t.length + 1) (Nat.le_refl _)).1
  have := (sa_end F).1
  rw [h, if_neg (by omega), Nat.add_sub_cancel]
theorem bwt_get {t : List UInt8} {f : Nat → Nat} (F : IsSA t f) (x : Nat) (hx : x ≤ t.length) (hne : x ≠ endOf f (t.length + 1)) : (pre t f (t.length + 1)).getD (idx (endOf f (t.length + 1)) x) 0 = t.getD (f x - 1) 0 :=
  (pre_facts (t := t) (sa_zero F) (t.length + 1) (Nat.le_refl _)).2 x (by omega) hne

/-- The place ahead of a row's, for the byte number i of the transform. -/
theorem bwt_byte {t : List UInt8} {f : Nat → Nat} (F : IsSA t f) (i : Nat) (hi : i < t.length) : bN (pre t f (t.length + 1)) i = bN t (f (unidx (endOf f (t.length + 1)) i) - 1) := by
  have h := bwt_get F (unidx (endOf f (t.length + 1)) i) (unidx_le hi) (unidx_ne _ _)
  rw [idx_unidx] at h
  unfold bN; rw [h]
theorem f_pos {t : List UInt8} {f : Nat → Nat} (F : IsSA t f) (i : Nat) (hi : i < t.length) : 0 < f (unidx (endOf f (t.length + 1)) i) := by
  rcases Nat.eq_zero_or_pos (f (unidx (endOf f (t.length + 1)) i)) with h | h
  · exact absurd ((sa_zero F _ (unidx_le hi)).1 h) (unidx_ne _ _)
  · exact h
theorem sl_step {t : List UInt8} (a b : Nat) (ha : 0 < a) (hb : 0 < b) (ha' : a ≤ t.length) (hb' : b ≤ t.length) : sl t (a - 1) (b - 1) = true ↔ bN t (a - 1) < bN t (b - 1) ∨ (bN t (a - 1) = bN t (b - 1) ∧ sl t a b = true) := by
  have h1 : a - 1 < t.length := by omega
  have h2 : b - 1 < t.length := by omega
  unfold sl
  rw [List.drop_eq_getElem_cons h1, List.drop_eq_getElem_cons h2, bl_cons_iff, bN_lt h1, bN_lt h2, show a - 1 + 1 = a from by omega, show b - 1 + 1 = b from by omega]

/-- The row of the suffix a byte longer. -/
theorem lf {t : List UInt8} {f : Nat → Nat} (F : IsSA t f) (i : Nat) (hi : i < t.length) : f (1 + rk (bN (pre t f (t.length + 1))) t.length i) = f (unidx (endOf f (t.length + 1)) i) - 1 := by
  have P := fun (i : Nat) (hi : i < t.length) => F.pos (x := f (unidx (endOf f (t.length + 1)) i) - 1) (by have := F.le _ (unidx_le (e := endOf f (t.length + 1)) hi); omega)
  have Y : ∀ i, i < t.length → 0 < posOf f (f (unidx (endOf f (t.length + 1)) i) - 1) (t.length + 1) := by
    intro i hi
    rcases Nat.eq_zero_or_pos (posOf f (f (unidx (endOf f (t.length + 1)) i) - 1) (t.length + 1)) with h | h
    · have h1 := (P i hi).2
      rw [h, F.first] at h1
      have h2 := F.le _ (unidx_le (e := endOf f (t.length + 1)) hi)
      have h3 := f_pos F i hi
      omega
    · exact h
  have key := order_eq (n := t.length) (p := fun i => posOf f (f (unidx (endOf f (t.length + 1)) i) - 1) (t.length + 1) - 1) (q := rk (bN (pre t f (t.length + 1))) t.length)
    (fun i hi => by have h1 := (P i hi).1; have h2 := Y i hi; show posOf f (f (unidx (endOf f (t.length + 1)) i) - 1) (t.length + 1) - 1 < t.length; omega)
    (fun i hi => rk_lt _ _ _ hi)
    (fun i j hi hj h => by
      have h' : posOf f (f (unidx (endOf f (t.length + 1)) i) - 1) (t.length + 1) - 1 = posOf f (f (unidx (endOf f (t.length + 1)) j) - 1) (t.length + 1) - 1 := h
      have yi := Y i hi
      have yj := Y j hj
      have h2 : posOf f (f (unidx (endOf f (t.length + 1)) i) - 1) (t.length + 1) = posOf f (f (unidx (endOf f (t.length + 1)) j) - 1) (t.length + 1) := by omega
      have e1 := (P i hi).2
      have e2 := (P j hj).2
      rw [h2, e2] at e1
      have p1 := f_pos F i hi
      have p2 := f_pos F j hj
      have := F.inj (unidx_le hi) (unidx_le hj) (show f (unidx (endOf f (t.length + 1)) i) = f (unidx (endOf f (t.length + 1)) j) by omega)
      have := congrArg (idx (endOf f (t.length + 1))) this
      rwa [idx_unidx, idx_unidx] at this)
    (fun i j hi hj => rk_inj _ _ hi hj)
    (fun i j hi hj => by
      have yi := Y i hi
      have yj := Y j hj
      have h1 : posOf f (f (unidx (endOf f (t.length + 1)) i) - 1) (t.length + 1) - 1 < posOf f (f (unidx (endOf f (t.length + 1)) j) - 1) (t.length + 1) - 1 ↔
        posOf f (f (unidx (endOf f (t.length + 1)) i) - 1) (t.length + 1) < posOf f (f (unidx (endOf f (t.length + 1)) j) - 1) (t.length + 1) := by omega
      show posOf f (f (unidx (endOf f (t.length + 1)) i) - 1) (t.length + 1) - 1 < posOf f (f (unidx (endOf f (t.length + 1)) j) - 1) (t.length + 1) - 1 ↔ _
      rw [h1, ← F.lt_iff (P i hi).1 (P j hj).1, (P i hi).2, (P j hj).2, sl_step _ _ (f_pos F i hi) (f_pos F j hj) (F.le _ (unidx_le hi)) (F.le _ (unidx_le hj)), F.lt_iff (unidx_le hi) (unidx_le hj), unidx_mono, ← bwt_byte F i hi, ← bwt_byte F j hj, rk_lt_iff _ _ hi hj])
  have h := key i hi
  have h' : posOf f (f (unidx (endOf f (t.length + 1)) i) - 1) (t.length + 1) - 1 = rk (bN (pre t f (t.length + 1))) t.length i := h
  have yi := Y i hi
  rw [← h', show 1 + (posOf f (f (unidx (endOf f (t.length + 1)) i) - 1) (t.length + 1) - 1) = posOf f (f (unidx (endOf f (t.length + 1)) i) - 1) (t.length + 1) from by omega]
  exact (P i hi).2

/-- The way from row 0 goes through the text from its end. -/
theorem rr_sa {t : List UInt8} {f : Nat → Nat} (F : IsSA t f) : ∀ k, k ≤ t.length → rr (bN (pre t f (t.length + 1))) t.length (endOf f (t.length + 1)) k ≤ t.length ∧ f (rr (bN (pre t f (t.length + 1))) t.length (endOf f (t.length + 1)) k) = t.length - k := by
  intro k
  induction k with
  | zero => intro _; exact ⟨Nat.zero_le _, by show f 0 = _; rw [F.first]; rfl⟩
  | succ k ih =>
    intro hk
    obtain ⟨h1, h2⟩ := ih (by omega)
    have hne : rr (bN (pre t f (t.length + 1))) t.length (endOf f (t.length + 1)) k ≠ endOf f (t.length + 1) := by
      intro h
      have := (sa_zero F _ h1).2 h
      omega
    have hi := idx_lt h1 (sa_end F).1 hne
    have hl := lf F _ hi
    rw [unidx_idx hne, h2] at hl
    rw [rr_succ]
    refine ⟨by have := rk_lt (bN (pre t f (t.length + 1))) t.length _ hi; omega, by rw [hl]; omega⟩
theorem bwt_ok {t : List UInt8} {f : Nat → Nat} (F : IsSA t f) : okBack (pre t f (t.length + 1)) (endOf f (t.length + 1)) := by
  intro j hj h
  rw [bwt_length F] at hj h
  have h1 := rr_sa F j (by omega)
  rw [h] at h1
  have := (sa_end F).2
  omega
theorem bwt_back {t : List UInt8} {f : Nat → Nat} (F : IsSA t f) : backText (pre t f (t.length + 1)) (endOf f (t.length + 1)) = t := by
  have hl := bwt_length F
  apply List.ext_getElem
  · rw [backText_length, hl]
  · intro j h1 h2
    have q := backText_get (pre t f (t.length + 1)) (endOf f (t.length + 1)) (t.length - 1 - j) (by rw [hl]; omega) (by rw [backText_length, hl]; omega)
    have e : (pre t f (t.length + 1)).length - 1 - (t.length - 1 - j) = j := by rw [hl]; omega
    have q2 : (backText (pre t f (t.length + 1)) (endOf f (t.length + 1)))[j] = (pre t f (t.length + 1)).getD (idx (endOf f (t.length + 1)) (rr (bN (pre t f (t.length + 1))) (pre t f (t.length + 1)).length (endOf f (t.length + 1)) (t.length - 1 - j))) 0 := by
      rw [← q]; congr 1; exact e.symm
    rw [q2, hl]
    have r := rr_sa F (t.length - 1 - j) (by omega)
    have hne : rr (bN (pre t f (t.length + 1))) t.length (endOf f (t.length + 1)) (t.length - 1 - j) ≠ endOf f (t.length + 1) := by
      intro h
      have := (sa_zero F _ r.1).2 h
      omega
    rw [bwt_get F _ r.1 hne, r.2, show t.length - (t.length - 1 - j) - 1 = j from by omega, List.getD_eq_getElem?_getD, List.getElem?_eq_getElem h2, Option.getD_some]
/-- A transform has the bytes of its text, each as often. -/
theorem bwt_cnt {t : List UInt8} {f : Nat → Nat} (F : IsSA t f) (c : Nat) : cnt (bN (pre t f (t.length + 1))) c t.length = cnt (bN t) c t.length := by
  rw [cnt_congr (fun i hi => bwt_byte F i hi) c]
  refine cnt_perm t.length (bN t) (fun i => f (unidx (endOf f (t.length + 1)) i) - 1) (fun i hi => ?_) (fun i j hi hj h => ?_) c
  · have h1 := f_pos F i hi
    have h2 := F.le _ (unidx_le (e := endOf f (t.length + 1)) hi)
    show f (unidx (endOf f (t.length + 1)) i) - 1 < t.length
    omega
  · have p1 := f_pos F i hi
    have p2 := f_pos F j hj
    have h' : f (unidx (endOf f (t.length + 1)) i) - 1 = f (unidx (endOf f (t.length + 1)) j) - 1 := h
    have := F.inj (unidx_le hi) (unidx_le hj) (show f (unidx (endOf f (t.length + 1)) i) = f (unidx (endOf f (t.length + 1)) j) by omega)
    have := congrArg (idx (endOf f (t.length + 1))) this
    rwa [idx_unidx, idx_unidx] at this
end Go.Proofs.YtkebgnpifmcmaabGreat
