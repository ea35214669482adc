import Derived.Test.YtkebgnpifmcmaaaWF
import Derived.Laws.IdiomStrings
import Derived.Laws.BytesArg
namespace Go.Proofs.Ytkebgnpifmcmaaa
open Go.RowKit

def bs (l : List UInt8) : ByteArray := ⟨l.toArray⟩
theorem tx_bs (l : List UInt8) : tx (bs l) = l := by simp [tx, bs]
theorem bs_tx (s : ByteArray) : bs (tx s) = s := by simp [tx, bs]
theorem bs_size (l : List UInt8) : (bs l).size = l.length := by simp [bs, ByteArray.size]
theorem bs_inj {a b : List UInt8} (h : bs a = bs b) : a = b := by rw [← tx_bs a, ← tx_bs b, h]
def BL (l : List UInt8) : List Value := l.map (fun b => Value.int .u8 (b.toNat : Int))
theorem BL_length (l : List UInt8) : (BL l).length = l.length := by simp [BL]

theorem own_below {w w' : World} {base : Nat} {e : TypeId} {v : Value} {n : Nat} {xs : List Value} (h : w.ownsRow base e 1 v n xs) (hb : Below w.heap.size w w') : w'.ownsRow base e 1 v n xs := by
  refine ⟨h.1, ?_⟩
  rcases h.2 with hn | ⟨g, cap, cur, rfl, hbs, hg, rest⟩
  · exact .inl hn
  · exact .inr ⟨g, cap, cur, rfl, hbs, (hb.block g (Array.getElem?_eq_some_iff.1 hg).1).trans hg, rest⟩

theorem row_ne_own {w : World} {base g n m : Nat} {e e' : TypeId} {F : Nat → Value} {v : Value} {xs : List Value} (h : Row w g e n F) (ho : w.ownsRow base e' 1 v m xs) (hne : e ≠ e') : some g ≠ v.ownBlock := by
  intro x
  obtain ⟨cur, hg, _⟩ := h
  rcases ho.2 with ⟨rfl, _⟩ | ⟨g', cap, cur', rfl, _, hg', _⟩
  · cases x
  · simp only [Value.ownBlock, Option.some.injEq] at x
    subst x
    rw [hg] at hg'
    simp only [Option.some.injEq, Obj.cells.injEq] at hg'
    exact hne hg'.2.1

/-- 'string(b)', b the call's own. -/
theorem conv_own {w : World} {base : Nat} {v : Value} {l : List UInt8} (h : w.ownsRow base 5 1 v l.length (BL l)) : (convert 60 9 v).run Try.prog w = .ok (.string (bs l)) w := by
  rcases h.2 with ⟨hv, h0⟩ | ⟨g, cap, cur, hv, hbs, hg, hnc, hcm, hcs, htake⟩
  · have : l = [] := List.length_eq_zero_iff.1 h0
    subst this
    rw [hv, run_convert_bytes_nil w 60 5 Try.underlying60 Try.underlying5 0 0 9 Try.underlying9]
    rfl
  · subst hv
    exact run_convert_bytes_back w 60 9 5 ⟨g, 0, none⟩ cap l Try.underlying60 Try.underlying5 Try.underlying9 (fun j hj => by
      have h1 := h.cellAt j (by omega)
      have h2 : (⟨g, 0, none⟩ : Addr).add j = ⟨g, j, none⟩ := by
        unfold Addr.add
        by_cases e : j = 0
        · simp [e]
        · simp [e]
      rw [h2, h1]; simp [BL, hj])

def endOf (f : Nat → Nat) : Nat → Nat
  | 0 => 0
  | k + 1 => if f k = 0 then k else endOf f k
def pre (t : List UInt8) (f : Nat → Nat) : Nat → List UInt8
  | 0 => []
  | k + 1 => pre t f k ++ (if f k = 0 then [] else [t.getD (f k - 1) 0])
theorem endOf_le (f : Nat → Nat) (k : Nat) : endOf f k ≤ k := by
  induction k with
  | zero => exact Nat.le_refl _
  | succ k ih => simp only [endOf]; split <;> omega
theorem pre_length (t : List UInt8) (f : Nat → Nat) (k : Nat) : (pre t f k).length ≤ k := by
  induction k with
  | zero => simp [pre]
  | succ k ih => simp only [pre]; split <;> simp <;> omega
theorem pre_zero {t : List UInt8} {f : Nat → Nat} {k : Nat} (h : f k = 0) : pre t f (k + 1) = pre t f k := by simp [pre, h]
theorem pre_next {t : List UInt8} {f : Nat → Nat} {k : Nat} (h : f k ≠ 0) : pre t f (k + 1) = pre t f k ++ [t.getD (f k - 1) 0] := by simp [pre, h]
theorem BL_snoc (l : List UInt8) (b : UInt8) : BL l ++ [.int .u8 (b.toNat : Int)] = BL (l ++ [b]) := by simp [BL]
theorem pre_congr {t : List UInt8} {f g : Nat → Nat} {k : Nat} (h : ∀ j, j < k → f j = g j) : pre t f k = pre t g k ∧ endOf f k = endOf g k := by
  induction k with
  | zero => exact ⟨rfl, rfl⟩
  | succ k ih =>
    have := ih (fun j hj => h j (by omega))
    simp only [pre, endOf, h k (by omega), this.1, this.2, and_self]
theorem tx_getD (s : ByteArray) (i : Nat) (h : i < s.size) : (tx s).getD i 0 = s[i] := by
  rw [List.getD_eq_getElem?_getD, List.getElem?_eq_getElem (by rw [tx_length]; exact h), Option.getD_some, tx_get s i h]; rfl

set_option maxRecDepth 10000 in
set_option maxHeartbeats 1000000 in
theorem of_any (s : ByteArray) (w : World) (hn : s.size ≤ 2000) :
    Calls Try.prog 38 #[.string s] w fun e w' => ∃ f, IsSA (tx s) f ∧ e = .returned (.tuple #[.string (bs (pre (tx s) f (s.size + 1))), .int .i64 ((endOf f (s.size + 1) : Nat) : Int)]) ∧ Below w.heap.size w w' := by
  obtain ⟨i0, hi, hz0, hz1, hz2⟩ := info_parts Try.info5
  go_enter Try.func38, Try.ntmps38
  go_wp2_with (at_make; refine wpList_make_own _ rfl _ _ 60 rfl w.heap.size 5 i0 (.int .u8 0) 1 Try.underlying60 hi hz0 hz1 .i64 .i64 _ s.size rfl rfl (by omega) (by rw [hz2]; omega) (by unfold maxLen; omega) (by omega) ?_; intro w1 hown hgr)
  have hb1 := below_made hgr
  have hsz1 := hgr.size
  clear hgr
  refine (sort_any s _ hn).mono ?_
  rintro e w2 ⟨f, ⟨g, cap, rfl, _, _, hg, hr, hb2⟩, hsa⟩
  have hown2 := own_below hown hb2
  have hb12 := hb1.trans (hb2.mono hsz1)
  have hgw : w.heap.size ≤ g := by omega
  have HSA : Hid (IsSA (tx s) f) := hsa
  have hne : g ≠ w.heap.size := by
    have := (hown.lt w.heap.size rfl).2
    omega
  clear hown hb1 hb2 hsa hsz1
  go_wp2_with fail
  go_loopw [4, 5, 14, 6, 7] (fun v e i _ _ wr => ∃ k : Nat, k ≤ s.size + 1 ∧ i = .int .i64 (k : Int) ∧ e = .int .i64 ((endOf f k : Nat) : Int) ∧ wr.ownsRow w.heap.size 5 1 v (pre (tx s) f k).length (BL (pre (tx s) f k)) ∧ Below w.heap.size w wr ∧ Row wr g 3 (s.size + 1) (IN f)) (fun _ _ i _ _ _ => s.size + 1 - (intOf i).toNat)
  case atStart => exact ⟨0, Nat.zero_le _, rfl, rfl, hown2, hb12, hr⟩
  case round =>
    clear hown2 hb12 hr
    obtain ⟨k, hk, rfl, rfl, hown, hb, hr⟩ := hrel
    have hpl := pre_length (tx s) f k
    by_cases hlt : k < s.size + 1
    · have hcf := hr.cell hlt
      rw [IN_at] at hcf
      have hfk := HSA.out.le k (by rw [tx_length]; omega)
      rw [tx_length] at hfk
      by_cases h0 : f k = 0
      · have hb0 : ((f k : Int) == 0) = true := by simp [h0]
        have HN : Hid (pre (tx s) f (k + 1) = pre (tx s) f k ∧ endOf f (k + 1) = k) := ⟨pre_zero h0, by simp [endOf, h0]⟩
        clear h0
        go_wp2
        go_roundw
        case rel => exact ⟨k + 1, by omega, by go_num, by rw [HN.out.2], by rw [HN.out.1]; exact hown, hb, hr⟩
        case measure => simp [intOf]; omega
      · have hb0 : ((f k : Int) == 0) = false := by simp; omega
        have hpos : 0 < f k := by omega
        have hidx : f k - 1 < s.size := by omega
        have HN : Hid (pre (tx s) f (k + 1) = pre (tx s) f k ++ [s[f k - 1]] ∧ endOf f (k + 1) = endOf f k) := ⟨by rw [pre_next h0, tx_getD s _ hidx], by simp [endOf, h0]⟩
        clear h0
        have hsz := hb.size
        go_wp2_with (at_builtin; refine wpList_append_own _ rfl (.tmp 22) (.tmp 27) 60 rfl w.heap.size 5 i0 (.int .u8 0) 1 1 Try.underlying60 hi hz0 hz1 hz2 rfl (by decide) u4 (pre (tx s) f k).length _ rfl (hown.alloc _) ⟨wr.heap.size, 0, none⟩ 1 1 [.int .u8 ((s[f k - 1]).toNat : Int)] rfl rfl (cell_one_new _ _ _) (by simp; rfl) (by unfold maxLen; omega) (by omega) (by simp; omega) ?_; intro v' w1 hown1 hgr1 _)
        have hb1 : Below w.heap.size w w1 := (hb.alloc hsz _).grown hgr1 (by simp; omega) (fun k hk => (hown.lt k hk).1)
        have hr1 : Row w1 g 3 (s.size + 1) (IN f) := (hr.alloc _).grown hgr1 (row_ne_own hr hown (by decide))
        rw [BL_snoc] at hown1
        have hown1' : w1.ownsRow w.heap.size 5 1 v' (pre (tx s) f (k + 1)).length (BL (pre (tx s) f (k + 1))) := by
          rw [HN.out.1, List.length_append]; exact hown1
        go_roundw
        case rel => exact ⟨k + 1, by omega, by go_num, by rw [HN.out.2], hown1', hb1, hr1⟩
        case measure => simp [intOf]; omega
    · have hkn : k = s.size + 1 := by omega
      subst hkn
      have hcv := conv_own hown
      go_wp2
      go_ret2
      exact ⟨f, HSA.out, rfl, hb⟩

end Go.Proofs.Ytkebgnpifmcmaaa
