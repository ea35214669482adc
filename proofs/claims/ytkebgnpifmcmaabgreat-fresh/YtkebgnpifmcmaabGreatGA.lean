import Derived.Test.YtkebgnpifmcmaabGreatProg
import Derived.WalkKit
import Derived.WalkSpells
import Derived.WalkLawsBesides
import Derived.Deep.QuietTactic
import Derived.BigQuiet
import Derived.Lib.IndexBytes
/- Rows of cells in memory, told by a function from places to values. -/
namespace Go.Proofs.YtkebgnpifmcmaabGreat
open Go.RowKit

/-- Block g holds at least n cells of type e, not frozen, and the first n of them are as F says. -/
def Row (w : World) (g : Nat) (e : TypeId) (n : Nat) (F : Nat → Value) : Prop :=
  ∃ cur : Array Value, w.heap[g]? = some (.cells cur e (0, 0)) ∧ n ≤ cur.size ∧ ∀ j, j < n → cur[j]? = some (F j)

def updV (F : Nat → Value) (j : Nat) (u : Value) : Nat → Value := fun i => if i = j then u else F i
def upd {α : Type} (f : Nat → α) (j : Nat) (x : α) : Nat → α := fun i => if i = j then x else f i
theorem upd_at {α : Type} (f : Nat → α) (j : Nat) (x : α) : upd f j x j = x := by simp [upd]
theorem upd_ne {α : Type} (f : Nat → α) (j : Nat) (x : α) {i : Nat} (h : i ≠ j) : upd f j x i = f i := by simp [upd, h]

theorem upd_next {α : Type} {f φ : Nat → α} {k : Nat} {x : α} (h : ∀ j, j < k → f j = φ j) (hx : x = φ k) : ∀ j, j < k + 1 → upd f k x j = φ j := by
  intro j hj
  by_cases e : j = k
  · subst e; rw [upd_at, hx]
  · rw [upd_ne _ _ _ e]; exact h j (by omega)

theorem Row.lt {w : World} {g : Nat} {e : TypeId} {n : Nat} {F : Nat → Value} (h : Row w g e n F) : g < w.heap.size := by
  obtain ⟨cur, hg, _⟩ := h
  exact (Array.getElem?_eq_some_iff.1 hg).1
theorem Row.cell {w : World} {g : Nat} {e : TypeId} {n : Nat} {F : Nat → Value} (h : Row w g e n F) {j : Nat} (hj : j < n) : w.cell? ⟨g, j, none⟩ = some (F j) := by
  obtain ⟨cur, hg, _, hc⟩ := h
  simp [World.cell?, hg, hc j hj]
theorem Row.free {w : World} {g : Nat} {e : TypeId} {n : Nat} {F : Nat → Value} (h : Row w g e n F) (j : Nat) : w.frozen? ⟨g, j, none⟩ = false := by
  obtain ⟨cur, hg, _, hc⟩ := h
  simp [World.frozen?, hg]
theorem Row.congr {w : World} {g : Nat} {e : TypeId} {n : Nat} {F G : Nat → Value} (h : Row w g e n F) (hFG : ∀ j, j < n → F j = G j) : Row w g e n G := by
  obtain ⟨cur, hg, hn, hc⟩ := h
  exact ⟨cur, hg, hn, fun j hj => by rw [hc j hj, hFG j hj]⟩
theorem Row.block {w w' : World} {g : Nat} {e : TypeId} {n : Nat} {F : Nat → Value} (h : Row w g e n F) (hb : w'.heap[g]? = w.heap[g]?) : Row w' g e n F := by
  obtain ⟨cur, hg, hn, hc⟩ := h
  exact ⟨cur, hb.trans hg, hn, hc⟩
theorem Row.below {w w' : World} {B g : Nat} {e : TypeId} {n : Nat} {F : Nat → Value} (h : Row w g e n F) (hb : Below B w w') (hlt : g < B) : Row w' g e n F := h.block (hb.block g hlt)
theorem Row.drew {w : World} {g : Nat} {e : TypeId} {n : Nat} {F : Nat → Value} (h : Row w g e n F) : Row w.drew g e n F := h
theorem Row.alloc {w : World} {g : Nat} {e : TypeId} {n : Nat} {F : Nat → Value} (h : Row w g e n F) (o : Obj) : Row (w.alloc o) g e n F := h.block (Below.heap_alloc w o g h.lt)
theorem Row.grown {w w' : World} {row : Option Nat} {g : Nat} {e : TypeId} {n : Nat} {F : Nat → Value} (h : Row w g e n F) (hg : w.grownBy w' row) (hne : some g ≠ row) : Row w' g e n F := h.block (hg.block g h.lt hne)
theorem Row.set {w : World} {g : Nat} {e : TypeId} {n : Nat} {F : Nat → Value} (h : Row w g e n F) (j : Nat) (u : Value) : Row (w.setCell ⟨g, j, none⟩ u) g e n (updV F j u) := by
  obtain ⟨cur, hg, hn, hc⟩ := h
  refine ⟨cur.setIfInBounds j u, heap_setCell_same w g j cur e u hg, by simpa using hn, fun i hi => ?_⟩
  rw [Array.getElem?_setIfInBounds]
  by_cases e : j = i
  · subst e; simp [updV]; omega
  · rw [if_neg e, hc i hi]; simp [updV]; intro h; exact absurd h.symm e
theorem Row.setOther {w : World} {g : Nat} {e : TypeId} {n : Nat} {F : Nat → Value} (h : Row w g e n F) {a : Addr} (ha : g ≠ a.block) (u : Value) : Row (w.setCell a u) g e n F :=
  h.block (Below.heap_setCell w a u g ha)

/-- Integers. -/
def II (f : Nat → Int) : Nat → Value := fun j => .int .i64 (f j)
/-- Natural numbers, as integers. -/
def IN (f : Nat → Nat) : Nat → Value := fun j => .int .i64 (f j : Int)
/-- Bytes. -/
def IB (f : Nat → UInt8) : Nat → Value := fun j => .int .u8 ((f j).toNat : Int)
theorem IN_at (f : Nat → Nat) (j : Nat) : IN f j = .int .i64 (f j : Int) := rfl
theorem II_at (f : Nat → Int) (j : Nat) : II f j = .int .i64 (f j) := rfl
theorem IB_at (f : Nat → UInt8) (j : Nat) : IB f j = .int .u8 ((f j).toNat : Int) := rfl
theorem updV_IN (f : Nat → Nat) (j x : Nat) : updV (IN f) j (.int .i64 (x : Int)) = IN (upd f j x) := by
  funext i; simp only [updV, IN, upd]; split <;> rfl
theorem updV_II (f : Nat → Int) (j : Nat) (x : Int) : updV (II f) j (.int .i64 x) = II (upd f j x) := by
  funext i; simp only [updV, II, upd]; split <;> rfl
theorem updV_IB (f : Nat → UInt8) (j : Nat) (x : UInt8) : updV (IB f) j (.int .u8 (x.toNat : Int)) = IB (upd f j x) := by
  funext i; simp only [updV, IB, upd]; split <;> rfl
theorem Row.setN {w : World} {g : Nat} {e : TypeId} {n : Nat} {f : Nat → Nat} (h : Row w g e n (IN f)) (j x : Nat) : Row (w.setCell ⟨g, j, none⟩ (.int .i64 (x : Int))) g e n (IN (upd f j x)) := by
  rw [← updV_IN]; exact h.set j _
theorem Row.setI {w : World} {g : Nat} {e : TypeId} {n : Nat} {f : Nat → Int} (h : Row w g e n (II f)) (j : Nat) (x : Int) : Row (w.setCell ⟨g, j, none⟩ (.int .i64 x)) g e n (II (upd f j x)) := by
  rw [← updV_II]; exact h.set j _

/-- What 'make([]T, n)' leaves. -/
theorem Row.made {w : World} {base g n : Nat} {e : TypeId} {z : Value} (h : w.ownsRow base e 1 (.slice (some ⟨g, 0, none⟩) n n) n (madeCells #[z] (n * 1)).toList) : Row w g e n (fun _ => z) := by
  rcases h.2 with ⟨h', _⟩ | ⟨g', cap', cur, h', hb, hg, hnc, hcm, hcs, htake⟩
  · simp at h'
  · simp only [Value.slice.injEq, Option.some.injEq, Addr.mk.injEq, and_true, true_and] at h'
    obtain ⟨rfl, rfl⟩ := h'
    refine ⟨cur, hg, by omega, fun j hj => ?_⟩
    have e1 : (cur.toList.take (n * 1))[j]? = some z := by rw [htake, toList_madeCells_one, List.getElem?_replicate, if_pos (by omega)]
    rw [List.getElem?_take, if_pos (by omega)] at e1
    simpa using e1
/-- From a row that is owned. -/
theorem Row.owned {w : World} {base g n cap : Nat} {e : TypeId} {xs : List Value} {F : Nat → Value} (h : w.ownsRow base e 1 (.slice (some ⟨g, 0, none⟩) n cap) n xs) (hF : ∀ j, j < n → xs[j]? = some (F j)) : Row w g e n F := by
  rcases h.2 with ⟨h', _⟩ | ⟨g', cap', cur, h', hb, hg, hnc, hcm, hcs, htake⟩
  · simp at h'
  · simp only [Value.slice.injEq, Option.some.injEq, Addr.mk.injEq, and_true, true_and] at h'
    obtain ⟨rfl, rfl⟩ := h'
    refine ⟨cur, hg, by omega, fun j hj => ?_⟩
    have e1 : (cur.toList.take (n * 1))[j]? = some (F j) := by rw [htake, hF j hj]
    rw [List.getElem?_take, if_pos (by omega)] at e1
    simpa using e1

theorem Tryz.info3 : (Tryz.prog.info? 3).map (fun i => (i.zero, i.size, i.bytes)) = some (some (.int .i64 0), 1, 8) := by kernel_rfl
theorem Tryz.info5 : (Tryz.prog.info? 5).map (fun i => (i.zero, i.size, i.bytes)) = some (some (.int .u8 0), 1, 1) := by kernel_rfl

/-- A new list of natural numbers: what a call that makes one leaves. -/
def NewN (w w' : World) (e : Ending) (n : Nat) (f : Nat → Nat) : Prop :=
  ∃ g cap, e = .returned (.slice (some ⟨g, 0, none⟩) n cap) ∧ n ≤ cap ∧ cap ≤ maxLen ∧ w.heap.size ≤ g ∧ Row w' g 3 n (IN f) ∧ Below w.heap.size w w'

end Go.Proofs.YtkebgnpifmcmaabGreat

namespace Go.Proofs.YtkebgnpifmcmaabGreat
open Go.RowKit

theorem below_made {w w1 : World} (h : w.grownBy w1 none) : Below w.heap.size w w1 := (Below.refl _ _).grown h (Nat.le_refl _) (fun _ h => by cases h)

set_option maxRecDepth 10000 in
set_option maxHeartbeats 400000 in
theorem allPlaces_any (n : Nat) (w : World) (hn : n ≤ 3000) :
    Calls Tryz.prog 99 #[.int .i64 (n : Int)] w fun e w' => NewN w w' e n (fun j => j) := by
  obtain ⟨i0, hi, hz0, hz1, hz2⟩ := info_parts Tryz.info3
  go_enter Tryz.func99, Tryz.ntmps99
  go_wp2_with (at_make; refine wpList_make_full _ rfl _ _ 32 rfl w.heap.size 3 i0 (.int .i64 0) 1 Tryz.underlying32 hi hz0 hz1 .i64 .i64 _ _ n rfl rfl (by omega) (by omega) (by rw [hz2]; omega) (by unfold maxLen; omega) (by omega) ?_; intro w1 hown hgr)
  have hrow := Row.made hown
  have hbel := below_made hgr
  have hsz := hgr.size
  clear hown hgr
  go_loopw [9, 4] (fun i _ wr => ∃ k : Nat, k ≤ n ∧ i = .int .i64 k ∧ (∃ f, Row wr w.heap.size 3 n (IN f) ∧ ∀ j, j < k → f j = j) ∧ Below w.heap.size w wr) (fun i _ _ => n - (intOf i).toNat)
  case atStart => exact ⟨0, Nat.zero_le _, rfl, ⟨fun _ => 0, hrow, fun j hj => by omega⟩, hbel⟩
  case round =>
    obtain ⟨k, hk, rfl, ⟨f, hr, hf⟩, hb⟩ := hrel
    by_cases hlt : k < n
    · have hc := hr.cell hlt
      have hfz := hr.free k
      go_wp2
      go_roundw
      case rel => exact ⟨k + 1, by omega, by go_num, ⟨_, hr.setN k k, upd_next hf rfl⟩, hb.setCell (Nat.le_refl _) _⟩
      case measure => simp [intOf]; omega
    · go_wp2
      go_ret
      exact ⟨_, _, rfl, by omega, by unfold maxLen; omega, Nat.le_refl _, hr.congr (fun j hj => by simp only [IN, hf j (show j < k by omega)]), hb⟩


theorem wrap64_byte (b : UInt8) : wrap64 (b.toNat : Int) = (b.toNat : Int) := by
  have := b.toNat_lt
  exact IntWalk.wrap64_in _ ⟨by omega, by omega⟩

/-- The ring of a text: its bytes, each one more, and the END, 0. -/
def ringAt (s : ByteArray) (i : Nat) : Nat := if h : i < s.size then (s[i]).toNat + 1 else 0
theorem ringAt_lt (s : ByteArray) (i : Nat) (h : i < s.size) : ringAt s i = (s[i]).toNat + 1 := by simp [ringAt, h]
theorem ringAt_end (s : ByteArray) (i : Nat) (h : ¬ i < s.size) : ringAt s i = 0 := by simp [ringAt, h]

set_option maxRecDepth 10000 in
set_option maxHeartbeats 400000 in
theorem classesOfBytes_any (s : ByteArray) (w : World) (hn : s.size ≤ 2000) :
    Calls Tryz.prog 97 #[.string s] w fun e w' => NewN w w' e (s.size + 1) (ringAt s) := by
  obtain ⟨i0, hi, hz0, hz1, hz2⟩ := info_parts Tryz.info3
  go_enter Tryz.func97, Tryz.ntmps97
  go_wp2_with (at_make; refine wpList_make_full _ rfl _ _ 32 rfl w.heap.size 3 i0 (.int .i64 0) 1 Tryz.underlying32 hi hz0 hz1 .i64 .i64 _ _ (s.size + 1) rfl rfl (by omega) (by omega) (by rw [hz2]; omega) (by unfold maxLen; omega) (by omega) ?_; intro w1 hown hgr)
  have hrow := Row.made hown
  have hbel := below_made hgr
  have hsz := hgr.size
  clear hown hgr
  go_loopw [11, 4] (fun i _ wr => ∃ k : Nat, k ≤ s.size ∧ i = .int .i64 k ∧ (∃ f, Row wr w.heap.size 3 (s.size + 1) (IN f) ∧ (∀ j, j < k → f j = ringAt s j) ∧ ∀ j, k ≤ j → f j = 0) ∧ Below w.heap.size w wr) (fun i _ _ => s.size - (intOf i).toNat)
  case atStart => exact ⟨0, Nat.zero_le _, rfl, ⟨fun _ => 0, hrow, fun j hj => by omega, fun j hj => rfl⟩, hbel⟩
  case round =>
    obtain ⟨k, hk, rfl, ⟨f, hr, hf, hf0⟩, hb⟩ := hrel
    by_cases hlt : k < s.size
    · have hc := hr.cell (show k < s.size + 1 by omega)
      have hfz := hr.free k
      have hby := (s[k]).toNat_lt
      have hw := wrap64_byte s[k]
      go_wp2
      go_roundw
      case rel => exact ⟨k + 1, by omega, by go_num, ⟨_, hr.setN k ((s[k]).toNat + 1), upd_next hf (ringAt_lt s k hlt).symm, fun j hj => by rw [upd_ne _ _ _ (by omega)]; exact hf0 j (by omega)⟩, hb.setCell (Nat.le_refl _) _⟩
      case measure => simp [intOf]; omega
    · go_wp2
      go_ret
      refine ⟨_, _, rfl, by omega, by unfold maxLen; omega, Nat.le_refl _, hr.congr (fun j hj => ?_), hb⟩
      have e : f j = ringAt s j := by
        by_cases h : j < k
        · exact hf j h
        · rw [hf0 j (by omega), ringAt_end s j (by omega)]
      simp only [IN, e]

/-- The place a byte of the ring's 'width' ahead of a place. -/
def backBy (n width p : Nat) : Nat := (p + n - width) % n
theorem back_int (n width p : Nat) (h : width ≤ n) : ((p : Int) - (width : Int)) % (n : Int) = ((backBy n width p : Nat) : Int) := by
  have e : ((p + n - width : Nat) : Int) = ((p : Int) - (width : Int)) + (n : Int) := by omega
  unfold backBy
  rw [Int.natCast_emod, e, Int.add_emod_right]

set_option maxRecDepth 10000 in
set_option maxHeartbeats 400000 in
theorem stepBack_any (g n cap width : Nat) (o : Nat → Nat) (w : World) (hn : n ≤ 3000) (hn0 : 0 < n) (hr0 : Row w g 3 n (IN o)) (ho : ∀ j, j < n → o j < n) (hw : width ≤ n) :
    Calls Tryz.prog 101 #[.slice (some ⟨g, 0, none⟩) n cap, .int .i64 (width : Int)] w fun e w' => NewN w w' e n (fun j => backBy n width (o j)) := by
  obtain ⟨i0, hi, hz0, hz1, hz2⟩ := info_parts Tryz.info3
  have hglt := hr0.lt
  go_enter Tryz.func101, Tryz.ntmps101
  go_wp2_with (at_make; refine wpList_make_full _ rfl _ _ 32 rfl w.heap.size 3 i0 (.int .i64 0) 1 Tryz.underlying32 hi hz0 hz1 .i64 .i64 _ _ n rfl rfl (by omega) (by omega) (by rw [hz2]; omega) (by unfold maxLen; omega) (by omega) ?_; intro w1 hown hgr)
  have hrow := Row.made hown
  have hbel := below_made hgr
  have hsz := hgr.size
  clear hown hgr
  go_loopw [13, 6, 7] (fun i _ _ wr => ∃ k : Nat, k ≤ n ∧ i = .int .i64 k ∧ (∃ f, Row wr w.heap.size 3 n (IN f) ∧ ∀ j, j < k → f j = backBy n width (o j)) ∧ Below w.heap.size w wr) (fun i _ _ _ => n - (intOf i).toNat)
  case atStart => exact ⟨0, Nat.zero_le _, rfl, ⟨fun _ => 0, hrow, fun j hj => by omega⟩, hbel⟩
  case round =>
    obtain ⟨k, hk, rfl, ⟨f, hr, hf⟩, hb⟩ := hrel
    by_cases hlt : k < n
    · have hc := hr.cell hlt
      have hfz := hr.free k
      have hco := (hr0.below hb hglt).cell hlt
      rw [IN_at] at hco
      have hok := ho k hlt
      have hne : ((n : Int) == 0) = false := by simp; omega
      go_wp2
      go_roundw
      case rel =>
        rw [back_int n width (o k) hw]
        exact ⟨k + 1, by omega, by go_num, ⟨_, hr.setN k (backBy n width (o k)), upd_next hf rfl⟩, hb.setCell (Nat.le_refl _) _⟩
      case measure => simp [intOf]; omega
    · go_wp2
      go_ret
      exact ⟨_, _, rfl, by omega, by unfold maxLen; omega, Nat.le_refl _, hr.congr (fun j hj => by simp only [IN, hf j (show j < k by omega)]), hb⟩

/-- The test of the two halves. -/
def halvesB (n : Nat) (c : Nat → Nat) (a b width : Nat) : Bool := c a == c b && c ((a + width) % n) == c ((b + width) % n)

theorem mod_int (a width n : Nat) : ((a : Int) + (width : Int)) % (n : Int) = (((a + width) % n : Nat) : Int) := by
  rw [Int.natCast_emod]; simp

set_option maxRecDepth 10000 in
set_option maxHeartbeats 400000 in
theorem sameHalves_any (g n cap a b width : Nat) (c : Nat → Nat) (w : World) (hn : n ≤ 3000) (hr : Row w g 3 n (IN c)) (ha : a < n) (hb : b < n) (hw : width ≤ 6000) :
    Calls Tryz.prog 134 #[.slice (some ⟨g, 0, none⟩) n cap, .int .i64 (a : Int), .int .i64 (b : Int), .int .i64 (width : Int)] w fun e w' => e = .returned (.bool (halvesB n c a b width)) ∧ ∃ m, w' = w.drewN m := by
  have hca := hr.cell ha
  have hcb := hr.cell hb
  have l1 : (a + width) % n < n := Nat.mod_lt _ (by omega)
  have l2 : (b + width) % n < n := Nat.mod_lt _ (by omega)
  have hca2 := hr.cell l1
  have hcb2 := hr.cell l2
  rw [IN_at] at hca hcb hca2 hcb2
  have hne : ((n : Int) == 0) = false := by simp; omega
  have m1 : 0 ≤ ((a : Int) + (width : Int)) % (n : Int) := Int.emod_nonneg _ (by omega)
  have m2 : 0 ≤ ((b : Int) + (width : Int)) % (n : Int) := Int.emod_nonneg _ (by omega)
  have m3 : ((a : Int) + (width : Int)) % (n : Int) < (n : Int) := Int.emod_lt_of_pos _ (by omega)
  have m4 : ((b : Int) + (width : Int)) % (n : Int) < (n : Int) := Int.emod_lt_of_pos _ (by omega)
  by_cases h1 : c a = c b
  · have g1 : ((c a : Int) == (c b : Int)) = true := by simp [h1]
    have fin : halvesB n c a b width = (((c ((a + width) % n) : Int)) == ((c ((b + width) % n) : Int))) := by
      unfold halvesB; rw [Bool.eq_iff_iff]; simp [h1]; omega
    have FIN : Hid (halvesB n c a b width = (((c ((a + width) % n) : Int)) == ((c ((b + width) % n) : Int)))) := fin
    clear fin h1
    go_enter Tryz.func134, Tryz.ntmps134
    go_wp2
    go_quiet (fail)
    go_wp2
    go_ret
    exact ⟨by rw [FIN.out]; rfl, _, rfl⟩
  · have g1 : ((c a : Int) == (c b : Int)) = false := by simp; omega
    have fin : halvesB n c a b width = false := by unfold halvesB; simp [h1]
    have FIN : Hid (halvesB n c a b width = false) := fin
    clear fin h1
    go_enter Tryz.func134, Tryz.ntmps134
    go_wp2
    go_quiet (fail)
    go_wp2
    go_ret
    exact ⟨by rw [FIN.out]; rfl, _, rfl⟩

end Go.Proofs.YtkebgnpifmcmaabGreat

namespace Go.Proofs.YtkebgnpifmcmaabGreat
open Go.RowKit

theorem Row.drewN {w : World} {g : Nat} {e : TypeId} {n : Nat} {F : Nat → Value} (h : Row w g e n F) (m : Nat) : Row (w.drewN m) g e n F := h.block rfl
theorem bdrewN {B : Nat} {a w : World} (h : Below B a w) (m : Nat) : Below B a (w.drewN m) := h.trans ⟨rfl, rfl, rfl, Nat.le_refl _, fun _ _ => rfl⟩

/-- How many steps of the order, up to i, part two neighbours. -/
def jd (S : Nat → Nat → Bool) (o : Nat → Nat) : Nat → Nat
  | 0 => 0
  | i + 1 => jd S o i + (if S (o i) (o (i + 1)) then 0 else 1)
theorem jd_le (S : Nat → Nat → Bool) (o : Nat → Nat) (i : Nat) : jd S o i ≤ i := by
  induction i with
  | zero => simp [jd]
  | succ i ih => simp only [jd]; split <;> omega

theorem sameHalves_eq (g n cap a b width : Nat) (c : Nat → Nat) (w : World) (v : Bool) (hn : n ≤ 3000) (hr : Row w g 3 n (IN c)) (ha : a < n) (hb : b < n) (hw : width ≤ 6000) (hv : halvesB n c a b width = v) :
    Calls Tryz.prog 134 #[.slice (some ⟨g, 0, none⟩) n cap, .int .i64 (a : Int), .int .i64 (b : Int), .int .i64 (width : Int)] w fun e w' => e = .returned (.bool v) ∧ ∃ m, w' = w.drewN m := by
  subst hv; exact sameHalves_any g n cap a b width c w hn hr ha hb hw

set_option maxRecDepth 10000 in
set_option maxHeartbeats 800000 in
theorem joinClasses_any (go n capo gc capc width : Nat) (o c : Nat → Nat) (w : World) (hn : n ≤ 3000) (hn0 : 0 < n) (hro : Row w go 3 n (IN o)) (hrc : Row w gc 3 n (IN c)) (ho : ∀ j, j < n → o j < n)
    (hinj : ∀ i j, i < n → j < n → o i = o j → i = j) (hw : width ≤ 6000) :
    Calls Tryz.prog 100 #[.slice (some ⟨go, 0, none⟩) n capo, .slice (some ⟨gc, 0, none⟩) n capc, .int .i64 (width : Int)] w fun e w' =>
      ∃ g cap f, e = .returned (.tuple #[.slice (some ⟨g, 0, none⟩) n cap, .int .i64 ((jd (fun a b => halvesB n c a b width) o (n - 1) + 1 : Nat) : Int)]) ∧ w.heap.size ≤ g ∧ Row w' g 3 n (IN f) ∧ Below w.heap.size w w' ∧
        ∀ i, i < n → f (o i) = jd (fun a b => halvesB n c a b width) o i := by
  obtain ⟨i0, hi, hz0, hz1, hz2⟩ := info_parts Tryz.info3
  have hglt := hro.lt
  have hclt := hrc.lt
  go_enter Tryz.func100, Tryz.ntmps100
  go_wp2_with (at_make; refine wpList_make_full _ rfl _ _ 32 rfl w.heap.size 3 i0 (.int .i64 0) 1 Tryz.underlying32 hi hz0 hz1 .i64 .i64 _ _ n rfl rfl (by omega) (by omega) (by rw [hz2]; omega) (by unfold maxLen; omega) (by omega) ?_; intro w1 hown hgr)
  have hrow := Row.made hown
  have hbel := below_made hgr
  have hsz := hgr.size
  clear hown hgr
  go_loopw [9, 10] (fun kd i wr => ∃ k : Nat, 1 ≤ k ∧ k ≤ n ∧ i = .int .i64 k ∧ kd = .int .i64 ((jd (fun a b => halvesB n c a b width) o (k - 1) + 1 : Nat) : Int) ∧
      (∃ f, Row wr w.heap.size 3 n (IN f) ∧ ∀ j, j < k → f (o j) = jd (fun a b => halvesB n c a b width) o j) ∧ Below w.heap.size w wr) (fun _ i _ => n - (intOf i).toNat)
  case atStart => exact ⟨1, Nat.le_refl _, by omega, rfl, rfl, ⟨fun _ => 0, hrow, fun j hj => by rw [show j = 0 from by omega]; rfl⟩, hbel⟩
  case round =>
    obtain ⟨k, hk1, hk, rfl, rfl, ⟨f, hr, hf⟩, hb⟩ := hrel
    have hjl := jd_le (fun a b => halvesB n c a b width) o (k - 1)
    by_cases hlt : k < n
    · have hco := (hro.below hb hglt).cell hlt
      have hco1 := (hro.below hb hglt).cell (show k - 1 < n by omega)
      rw [IN_at] at hco hco1
      have hok := ho k hlt
      have hok1 := ho (k - 1) (by omega)
      have hcs := hr.cell hok
      have hfz := hr.free (o k)
      have hrc' := hrc.below hb hclt
      have hstep : jd (fun a b => halvesB n c a b width) o k = jd (fun a b => halvesB n c a b width) o (k - 1) + (if halvesB n c (o (k - 1)) (o k) width then 0 else 1) := by
        obtain ⟨q, rfl⟩ : ∃ q, k = q + 1 := ⟨k - 1, by omega⟩
        rfl
      cases hv : halvesB n c (o (k - 1)) (o k) width with
      | true =>
        have HS : Hid (jd (fun a b => halvesB n c a b width) o k = jd (fun a b => halvesB n c a b width) o (k - 1)) := by rw [hv] at hstep; exact hstep
        have HV : Hid (halvesB n c (o (k - 1)) (o k) width = true) := hv
        clear hstep hv
        generalize hJ : jd (fun a b => halvesB n c a b width) o (k - 1) = J at *
        have HJ' : Hid (jd (fun a b => halvesB n c a b width) o (k - 1) = J) := hJ
        clear hJ
        go_wp2
        go_quiet ((go_at_call 134; exact Calls.quiet_of (sameHalves_eq gc n capc (o (k - 1)) (o k) width c _ true hn (hrc'.drewN _) hok1 hok hw HV.out)))
        go_wp2
        go_roundw
        case rel => exact ⟨k + 1, by omega, by omega, by go_num, by rw [Nat.add_sub_cancel, HS.out], ⟨_, (hr.drewN _).setN (o k) J, fun j hj => by
            by_cases e : j = k
            · subst e; rw [upd_at, HS.out]
            · rw [upd_ne _ _ _ (fun h => e (hinj j k (by omega) hlt h))]; exact hf j (by omega)⟩, (bdrewN hb _).setCell (Nat.le_refl _) _⟩
        case measure => simp [intOf]; omega
      | false =>
        have HS : Hid (jd (fun a b => halvesB n c a b width) o k = jd (fun a b => halvesB n c a b width) o (k - 1) + 1) := by rw [hv] at hstep; exact hstep
        have HV : Hid (halvesB n c (o (k - 1)) (o k) width = false) := hv
        clear hstep hv
        generalize hJ : jd (fun a b => halvesB n c a b width) o (k - 1) = J at *
        have HJ' : Hid (jd (fun a b => halvesB n c a b width) o (k - 1) = J) := hJ
        clear hJ
        go_wp2
        go_quiet ((go_at_call 134; exact Calls.quiet_of (sameHalves_eq gc n capc (o (k - 1)) (o k) width c _ false hn (hrc'.drewN _) hok1 hok hw HV.out)))
        go_wp2
        go_roundw
        case rel => exact ⟨k + 1, by omega, by omega, by go_num, by rw [Nat.add_sub_cancel, HS.out]; go_num, ⟨_, (hr.drewN _).setN (o k) (J + 1), fun j hj => by
            by_cases e : j = k
            · subst e; rw [upd_at, HS.out]
            · rw [upd_ne _ _ _ (fun h => e (hinj j k (by omega) hlt h))]; exact hf j (by omega)⟩, (bdrewN hb _).setCell (Nat.le_refl _) _⟩
        case measure => simp [intOf]; omega
    · have hkn : k = n := by omega
      subst hkn
      go_wp2
      go_ret2
      exact ⟨_, _, f, rfl, Nat.le_refl _, hr, hb, hf⟩

end Go.Proofs.YtkebgnpifmcmaabGreat

/- Counting: how many of the first m values are x, or less than x; the rank of a place among all, by value and then by place. Plain mathematics. -/
namespace Go.Proofs.YtkebgnpifmcmaabGreat

def cnt (f : Nat → Nat) (x : Nat) : Nat → Nat
  | 0 => 0
  | m + 1 => cnt f x m + (if f m = x then 1 else 0)
def less (f : Nat → Nat) (x : Nat) : Nat → Nat
  | 0 => 0
  | m + 1 => less f x m + (if f m < x then 1 else 0)
def rk (f : Nat → Nat) (n i : Nat) : Nat := less f (f i) n + cnt f (f i) i

theorem cnt_succ (f : Nat → Nat) (x m : Nat) : cnt f x (m + 1) = cnt f x m + (if f m = x then 1 else 0) := rfl
theorem cnt_same (f : Nat → Nat) (m : Nat) : cnt f (f m) (m + 1) = cnt f (f m) m + 1 := by simp [cnt]
theorem cnt_other (f : Nat → Nat) (x m : Nat) (h : f m ≠ x) : cnt f x (m + 1) = cnt f x m := by simp [cnt, h]
theorem cnt_le (f : Nat → Nat) (x m : Nat) : cnt f x m ≤ m := by
  induction m with
  | zero => simp [cnt]
  | succ m ih => simp only [cnt]; split <;> omega
theorem less_le (f : Nat → Nat) (x m : Nat) : less f x m ≤ m := by
  induction m with
  | zero => simp [less]
  | succ m ih => simp only [less]; split <;> omega
theorem less_zero (f : Nat → Nat) (m : Nat) : less f 0 m = 0 := by
  induction m with
  | zero => rfl
  | succ m ih => simp [less, ih]
theorem cnt_mono (f : Nat → Nat) (x : Nat) {i m : Nat} (h : i ≤ m) : cnt f x i ≤ cnt f x m := by
  induction m with
  | zero => have : i = 0 := by omega
            subst this; exact Nat.le_refl _
  | succ m ih =>
    by_cases e : i = m + 1
    · subst e; exact Nat.le_refl _
    · have := ih (by omega); simp only [cnt]; omega
theorem less_succ (f : Nat → Nat) (x m : Nat) : less f (x + 1) m = less f x m + cnt f x m := by
  induction m with
  | zero => rfl
  | succ m ih =>
    simp only [less, cnt, ih]
    by_cases h1 : f m < x
    · rw [if_pos (by omega), if_pos h1, if_neg (by omega)]; omega
    · by_cases h2 : f m = x
      · rw [if_pos (by omega), if_neg h1, if_pos h2]; omega
      · rw [if_neg (by omega), if_neg h1, if_neg h2]; omega
theorem less_mono (f : Nat → Nat) {x y : Nat} (m : Nat) (h : x ≤ y) : less f x m ≤ less f y m := by
  induction y with
  | zero => have : x = 0 := by omega
            subst this; exact Nat.le_refl _
  | succ y ih =>
    by_cases e : x = y + 1
    · subst e; exact Nat.le_refl _
    · have := ih (by omega); rw [less_succ]; omega
theorem cnt_lt (f : Nat → Nat) (n i : Nat) (h : i < n) : cnt f (f i) i < cnt f (f i) n := by
  have h1 := cnt_mono f (f i) (show i + 1 ≤ n from h)
  have h2 := cnt_same f i
  omega
theorem rk_lt_next (f : Nat → Nat) (n i : Nat) (h : i < n) : rk f n i < less f (f i + 1) n := by
  have := cnt_lt f n i h
  rw [less_succ]; unfold rk; omega
theorem rk_lt (f : Nat → Nat) (n i : Nat) (h : i < n) : rk f n i < n :=
  Nat.lt_of_lt_of_le (rk_lt_next f n i h) (less_le _ _ _)
theorem rk_mono (f : Nat → Nat) (n : Nat) {i j : Nat} (hi : i < n) (h : f i < f j) : rk f n i < rk f n j := by
  have h1 := rk_lt_next f n i hi
  have h2 := less_mono f n (show f i + 1 ≤ f j from h)
  have h3 : less f (f j) n ≤ rk f n j := by unfold rk; omega
  omega
theorem rk_mono_eq (f : Nat → Nat) (n : Nat) {i j : Nat} (hij : i < j) (h : f i = f j) : rk f n i < rk f n j := by
  unfold rk
  have h1 := cnt_mono f (f i) (show i + 1 ≤ j from hij)
  have h2 := cnt_same f i
  rw [← h]; omega
/-- The rank is strictly growing in (value, place). -/
theorem rk_lt_iff (f : Nat → Nat) (n : Nat) {i j : Nat} (hi : i < n) (hj : j < n) : rk f n i < rk f n j ↔ f i < f j ∨ (f i = f j ∧ i < j) := by
  constructor
  · intro h
    rcases Nat.lt_trichotomy (f i) (f j) with e | e | e
    · exact .inl e
    · refine .inr ⟨e, ?_⟩
      rcases Nat.lt_trichotomy i j with d | d | d
      · exact d
      · subst d; omega
      · have := rk_mono_eq f n d e.symm; omega
    · have := rk_mono f n hj e; omega
  · rintro (h | ⟨h, hlt⟩)
    · exact rk_mono f n hi h
    · exact rk_mono_eq f n hlt h
theorem rk_inj (f : Nat → Nat) (n : Nat) {i j : Nat} (hi : i < n) (hj : j < n) (h : rk f n i = rk f n j) : i = j := by
  rcases Nat.lt_trichotomy i j with d | d | d
  · exfalso
    rcases Nat.lt_trichotomy (f i) (f j) with e | e | e
    · have := rk_mono f n hi e; omega
    · have := rk_mono_eq f n d e; omega
    · have := rk_mono f n hj e; omega
  · exact d
  · exfalso
    rcases Nat.lt_trichotomy (f i) (f j) with e | e | e
    · have := rk_mono f n hi e; omega
    · have := rk_mono_eq f n d e.symm; omega
    · have := rk_mono f n hj e; omega
theorem less_of_cnt {f g : Nat → Nat} {n : Nat} (h : ∀ x, cnt f x n = cnt g x n) (x : Nat) : less f x n = less g x n := by
  induction x with
  | zero => rw [less_zero, less_zero]
  | succ x ih => rw [less_succ, less_succ, ih, h]
theorem cnt_congr {f g : Nat → Nat} {n : Nat} (h : ∀ i, i < n → f i = g i) (x : Nat) : cnt f x n = cnt g x n := by
  induction n with
  | zero => rfl
  | succ n ih => simp only [cnt]; rw [ih (fun i hi => h i (by omega)), h n (by omega)]

/-- Pigeonhole: a one to one map of the first n places into themselves reaches every one of them. -/
theorem surj_of_inj : ∀ (n : Nat) (o : Nat → Nat), (∀ i, i < n → o i < n) → (∀ i j, i < n → j < n → o i = o j → i = j) → ∀ x, x < n → ∃ i, i < n ∧ o i = x := by
  intro n
  induction n with
  | zero => intro o _ _ x hx; omega
  | succ n ih =>
    intro o hb hi x hx
    -- the last value is swapped with n
    let o' : Nat → Nat := fun i => if o i = n then o n else o i
    have hb' : ∀ i, i < n → o' i < n := by
      intro i hin
      show (if o i = n then o n else o i) < n
      split
      · next h =>
        have h1 := hb n (by omega)
        have h2 : o n ≠ n := fun h2 => by have := hi i n (by omega) (by omega) (h.trans h2.symm); omega
        omega
      · next h => have := hb i (by omega); omega
    have hi' : ∀ i j, i < n → j < n → o' i = o' j → i = j := by
      intro i j hin hjn h
      have h' : (if o i = n then o n else o i) = (if o j = n then o n else o j) := h
      by_cases a : o i = n
      · by_cases b : o j = n
        · exact hi i j (by omega) (by omega) (a.trans b.symm)
        · rw [if_pos a, if_neg b] at h'
          have := hi n j (by omega) (by omega) h'; omega
      · by_cases b : o j = n
        · rw [if_neg a, if_pos b] at h'
          have := hi i n (by omega) (by omega) h'; omega
        · rw [if_neg a, if_neg b] at h'
          exact hi i j (by omega) (by omega) h'
    by_cases hxn : x = n
    · subst hxn
      by_cases e : o x = x
      · exact ⟨x, by omega, e⟩
      · have hon := hb x (by omega)
        obtain ⟨i, hin, hoi⟩ := ih o' hb' hi' (o x) (by omega)
        have hoi' : (if o i = x then o x else o i) = o x := hoi
        by_cases a : o i = x
        · exact ⟨i, by omega, a⟩
        · rw [if_neg a] at hoi'
          have := hi i x (by omega) (by omega) hoi'; omega
    · by_cases e : o n = x
      · exact ⟨n, by omega, e⟩
      · obtain ⟨i, hin, hoi⟩ := ih o' hb' hi' x (by omega)
        have hoi' : (if o i = n then o n else o i) = x := hoi
        by_cases a : o i = n
        · rw [if_pos a] at hoi'; exact absurd hoi' e
        · rw [if_neg a] at hoi'; exact ⟨i, by omega, hoi'⟩

/-- A permutation of the places changes no count. -/
theorem cnt_perm : ∀ (n : Nat) (c o : Nat → Nat), (∀ i, i < n → o i < n) → (∀ i j, i < n → j < n → o i = o j → i = j) → ∀ x, cnt (fun i => c (o i)) x n = cnt c x n := by
  intro n
  induction n with
  | zero => intros; rfl
  | succ n ih =>
    intro c o hb hi x
    let o' : Nat → Nat := fun i => if o i = n then o n else o i
    have hb' : ∀ i, i < n → o' i < n := by
      intro i hin
      show (if o i = n then o n else o i) < n
      split
      · next h =>
        have h1 := hb n (by omega)
        have h2 : o n ≠ n := fun h2 => by have := hi i n (by omega) (by omega) (h.trans h2.symm); omega
        omega
      · next h => have := hb i (by omega); omega
    have hi' : ∀ i j, i < n → j < n → o' i = o' j → i = j := by
      intro i j hin hjn h
      have h' : (if o i = n then o n else o i) = (if o j = n then o n else o j) := h
      by_cases a : o i = n
      · by_cases b : o j = n
        · exact hi i j (by omega) (by omega) (a.trans b.symm)
        · rw [if_pos a, if_neg b] at h'
          have := hi n j (by omega) (by omega) h'; omega
      · by_cases b : o j = n
        · rw [if_neg a, if_pos b] at h'
          have := hi i n (by omega) (by omega) h'; omega
        · rw [if_neg a, if_neg b] at h'
          exact hi i j (by omega) (by omega) h'
    have hih := ih c o' hb' hi' x
    show cnt (fun i => c (o i)) x n + (if c (o n) = x then 1 else 0) = cnt c x n + (if c n = x then 1 else 0)
    by_cases e : o n = n
    · rw [e, ← hih]
      congr 1
      refine cnt_congr (fun i hin => ?_) x
      show c (o i) = c (if o i = n then o n else o i)
      rw [if_neg]; intro h; have := hi i n (by omega) (by omega) (h.trans e.symm); omega
    · obtain ⟨q, hq, hoq⟩ := surj_of_inj (n + 1) o hb hi n (by omega)
      have hqn : q < n := by
        by_cases h : q = n
        · subst h; exact absurd hoq e
        · omega
      -- the counts of c (o i) and c (o' i) part at q alone
      have key : ∀ m, m ≤ n → cnt (fun i => c (o i)) x m + (if q < m then (if c (o n) = x then 1 else 0) else 0) = cnt (fun i => c (o' i)) x m + (if q < m then (if c n = x then 1 else 0) else 0) := by
        intro m
        induction m with
        | zero => intro _; simp [cnt]
        | succ m ihm =>
          intro hm
          have h1 := ihm (by omega)
          simp only [cnt]
          by_cases e2 : m = q
          · subst e2
            have h3 : o' m = o n := by show (if o m = n then o n else o m) = o n; rw [if_pos hoq]
            simp only [h3, hoq]
            rw [if_pos (show m < m + 1 by omega), if_pos (show m < m + 1 by omega)]
            rw [if_neg (show ¬ m < m by omega), if_neg (show ¬ m < m by omega)] at h1
            omega
          · have h3 : o' m = o m := by
              show (if o m = n then o n else o m) = o m
              rw [if_neg]; intro h; exact e2 (hi m q (by omega) (by omega) (h.trans hoq.symm))
            simp only [h3]
            by_cases l : q < m
            · rw [if_pos l, if_pos l] at h1
              rw [if_pos (show q < m + 1 by omega), if_pos (show q < m + 1 by omega)]; omega
            · rw [if_neg l, if_neg l] at h1
              rw [if_neg (show ¬ q < m + 1 by omega), if_neg (show ¬ q < m + 1 by omega)]; omega
      have hk := key n (Nat.le_refl _)
      rw [if_pos hqn, if_pos hqn] at hk
      rw [← hih]; omega

end Go.Proofs.YtkebgnpifmcmaabGreat

namespace Go.Proofs.YtkebgnpifmcmaabGreat
open Go.RowKit

/-- The first loop's step. -/
theorem starts_step {c st : Nat → Nat} {k : Nat} (h0 : st 0 = 0) (h : ∀ x, st (x + 1) = cnt c x k) : upd st (c k + 1) (st (c k + 1) + 1) 0 = 0 ∧ ∀ x, upd st (c k + 1) (st (c k + 1) + 1) (x + 1) = cnt c x (k + 1) := by
  refine ⟨by rw [upd_ne _ _ _ (by omega)]; exact h0, fun x => ?_⟩
  by_cases e : x = c k
  · subst e; rw [upd_at, cnt_same, h]
  · rw [upd_ne _ _ _ (by omega), cnt_other _ _ _ (fun h => e h.symm), h]
/-- The second loop's step. -/
theorem sums_step {c st : Nat → Nat} {n k : Nat} (h : ∀ x, x ≤ k → st x = less c x n) (h' : ∀ x, k ≤ x → st (x + 1) = cnt c x n) :
    (∀ x, x ≤ k + 1 → upd st (k + 1) (st (k + 1) + st k) x = less c x n) ∧ ∀ x, k + 1 ≤ x → upd st (k + 1) (st (k + 1) + st k) (x + 1) = cnt c x n := by
  refine ⟨fun x hx => ?_, fun x hx => ?_⟩
  · by_cases e : x = k + 1
    · subst e; rw [upd_at, h' k (Nat.le_refl _), h k (Nat.le_refl _), less_succ]; omega
    · rw [upd_ne _ _ _ e]; exact h x (by omega)
  · rw [upd_ne _ _ _ (by omega)]; exact h' x (by omega)
/-- The third loop's step. -/
theorem place_step {d st s p : Nat → Nat} {n K k : Nat} (hk : k < n) (hst : ∀ x, x < K → st x = less d x n + cnt d x k) (hdk : d k < K) (hs : ∀ i, i < k → s (rk d n i) = p i) :
    st (d k) = rk d n k ∧ (∀ x, x < K → upd st (d k) (st (d k) + 1) x = less d x n + cnt d x (k + 1)) ∧ ∀ i, i < k + 1 → upd s (st (d k)) (p k) (rk d n i) = p i := by
  have e0 : st (d k) = rk d n k := hst _ hdk
  refine ⟨e0, fun x hx => ?_, fun i hi => ?_⟩
  · by_cases e : x = d k
    · subst e; rw [upd_at, cnt_same, hst _ hx]; omega
    · rw [upd_ne _ _ _ e, cnt_other _ _ _ (fun h => e h.symm), hst x hx]
  · rw [e0]
    by_cases e : i = k
    · subst e; rw [upd_at]
    · rw [upd_ne _ _ _ (fun h => e (rk_inj d n (by omega) hk h))]; exact hs i (by omega)

set_option maxRecDepth 10000 in
set_option maxHeartbeats 800000 in
theorem sortByClass_any (gp n capp gc capc K : Nat) (p c : Nat → Nat) (w : World) (hn : n ≤ 3000) (hK : K ≤ 3000) (hrp : Row w gp 3 n (IN p)) (hrc : Row w gc 3 n (IN c)) (hp : ∀ j, j < n → p j < n) (hc : ∀ j, j < n → c j < K)
    (hperm : ∀ x, cnt (fun i => c (p i)) x n = cnt c x n) :
    Calls Tryz.prog 98 #[.slice (some ⟨gp, 0, none⟩) n capp, .slice (some ⟨gc, 0, none⟩) n capc, .int .i64 (K : Int)] w fun e w' =>
      ∃ s, NewN w w' e n s ∧ ∀ i, i < n → s (rk (fun i => c (p i)) n i) = p i := by
  obtain ⟨i0, hi, hz0, hz1, hz2⟩ := info_parts Tryz.info3
  have hplt := hrp.lt
  have hclt := hrc.lt
  have HP : Hid (∀ x, less (fun i => c (p i)) x n = less c x n) := less_of_cnt hperm
  clear hperm
  go_enter Tryz.func98, Tryz.ntmps98
  go_wp2_with (at_make; refine wpList_make_full _ rfl (.tmp 16) _ 32 rfl w.heap.size 3 i0 (.int .i64 0) 1 Tryz.underlying32 hi hz0 hz1 .i64 .i64 _ _ (K + 1) rfl rfl (by omega) (by omega) (by rw [hz2]; omega) (by unfold maxLen; omega) (by omega) ?_; intro w1 hown hgr)
  have hrow := Row.made hown
  have hbel := below_made hgr
  have hsz := hgr.size
  clear hown hgr
  go_loopw [20, 9] (fun i _ wr => ∃ k : Nat, k ≤ n ∧ i = .int .i64 k ∧ (∃ st, Row wr w.heap.size 3 (K + 1) (IN st) ∧ Hid (st 0 = 0) ∧ Hid (∀ x, st (x + 1) = cnt c x k)) ∧ Below w.heap.size w wr) (fun i _ _ => n - (intOf i).toNat)
  case atStart => exact ⟨0, Nat.zero_le _, rfl, ⟨fun _ => 0, hrow, rfl, fun x => rfl⟩, hbel⟩
  case round =>
    obtain ⟨k, hk, rfl, ⟨st, hr, H0, H1⟩, hb⟩ := hrel
    by_cases hlt : k < n
    · have hcc := (hrc.below hb hclt).cell hlt
      have hck := hc k hlt
      have hcs := hr.cell (show c k + 1 < K + 1 by omega)
      have hfz := hr.free (c k + 1)
      rw [IN_at] at hcs hcc
      have hsb : st (c k + 1) ≤ n := by rw [H1.out]; have := cnt_le c (c k) k; omega
      go_wp2
      go_roundw
      case rel =>
        have R := starts_step H0.out H1.out
        exact ⟨k + 1, by omega, by go_num, ⟨_, hr.setN (c k + 1) (st (c k + 1) + 1), R.1, R.2⟩, hb.setCell (Nat.le_refl _) _⟩
      case measure => simp [intOf]; omega
    · have hkn : k = n := by omega
      subst hkn
      have H2 : Hid (∀ x, x ≤ 0 → st x = less c x k) := fun x hx => by rw [show x = 0 from by omega, less_zero]; exact H0.out
      clear H0 hrow hbel hk hlt
      go_wp2_with fail
      go_loopw [33, 10] (fun i _ wr => ∃ m : Nat, m ≤ K ∧ i = .int .i64 m ∧ (∃ st, Row wr w.heap.size 3 (K + 1) (IN st) ∧ Hid (∀ x, x ≤ m → st x = less c x k) ∧ Hid (∀ x, m ≤ x → st (x + 1) = cnt c x k)) ∧ Below w.heap.size w wr) (fun i _ _ => K - (intOf i).toNat)
      case atStart => exact ⟨0, Nat.zero_le _, rfl, ⟨st, hr, H2, fun x _ => H1.out x⟩, hb⟩
      case round =>
        clear hr hb H1 H2
        obtain ⟨m, hm, rfl, ⟨st, hr, H1, H2⟩, hb⟩ := hrel
        by_cases hlt : m < K
        · have hcs := hr.cell (show m < K + 1 by omega)
          have hcs1 := hr.cell (show m + 1 < K + 1 by omega)
          have hfz := hr.free (m + 1)
          rw [IN_at] at hcs hcs1
          have hsb : st m ≤ k := by rw [H1.out m (Nat.le_refl _)]; exact less_le _ _ _
          have hsb1 : st (m + 1) ≤ k := by rw [H2.out m (Nat.le_refl _)]; exact cnt_le _ _ _
          go_wp2
          go_region
          all_goals go_wp2
          all_goals go_roundw
          case rel =>
            have R := sums_step H1.out H2.out
            exact ⟨m + 1, by omega, by go_num, ⟨_, hr.drew.setN (m + 1) (st (m + 1) + st m), R.1, R.2⟩, hb.drew.setCell (Nat.le_refl _) _⟩
          case measure => simp [intOf]; omega
        · have hkm : m = K := by omega
          subst hkm
          have hsz1 := hb.size
          go_wp2_with (at_make; refine wpList_make_full _ rfl (.tmp 49) _ 32 rfl wr.heap.size 3 i0 (.int .i64 0) 1 Tryz.underlying32 hi hz0 hz1 .i64 .i64 _ _ k rfl rfl (by omega) (by omega) (by rw [hz2]; omega) (by unfold maxLen; omega) (by omega) ?_; intro w2 hown hgr)
          have hrow := Row.made hown
          have hb2 := hb.grown hgr hsz1 (fun _ h => by cases h)
          have hr2 := hr.grown hgr (by simp)
          have hg2 : w.heap.size < wr.heap.size := hr.lt
          obtain ⟨G, hG⟩ : ∃ G, G = wr.heap.size := ⟨_, rfl⟩
          rw [← hG] at hrow hg2 ⊢
          clear hown hgr hr hb H2 hsz1 hG
          have H3 : Hid (∀ x, x < m → st x = less (fun i => c (p i)) x k + cnt (fun i => c (p i)) x 0) := fun x hx => by rw [HP.out, H1.out x (by omega)]; rfl
          clear H1
          go_loopw [53, 13, 14] (fun i _ _ wr => ∃ q : Nat, q ≤ k ∧ i = .int .i64 q ∧ (∃ st s, Row wr w.heap.size 3 (m + 1) (IN st) ∧ Row wr G 3 k (IN s) ∧ Hid (∀ x, x < m → st x = less (fun i => c (p i)) x k + cnt (fun i => c (p i)) x q) ∧ Hid (∀ i, i < q → s (rk (fun i => c (p i)) k i) = p i)) ∧ Below w.heap.size w wr) (fun i _ _ _ => k - (intOf i).toNat)
          case atStart => exact ⟨0, Nat.zero_le _, rfl, ⟨st, fun _ => 0, hr2, hrow, H3, fun i hi => by omega⟩, hb2⟩
          case round =>
            clear hr2 hrow H3 hb2
            obtain ⟨q, hq, rfl, ⟨st, s, hr, hs, H1, H2⟩, hb⟩ := hrel
            by_cases hlt : q < k
            · have R := place_step (p := p) (s := s) hlt H1.out (hc (p q) (hp q hlt)) H2.out
              have hpq := hp q hlt
              have hcq := hc (p q) hpq
              have hc1 := (hrp.below hb hplt).cell hlt
              have hc2 := (hrc.below hb hclt).cell hpq
              have hc3 := hr.cell (show c (p q) < m + 1 by omega)
              have hfz3 := hr.free (c (p q))
              have hstq : st (c (p q)) < k := by rw [R.1]; exact rk_lt _ _ _ hlt
              have hc4 := hs.cell hstq
              have hfz4 := hs.free (st (c (p q)))
              rw [IN_at] at hc1 hc2 hc3 hc4
              have R2 : Hid _ := R.2
              clear R
              go_wp2
              go_roundw
              case rel => 
                exact ⟨q + 1, by omega, by go_num, ⟨_, _, (hr.setOther (by simp; omega) _).setN (c (p q)) (st (c (p q)) + 1), (hs.setN (st (c (p q))) (p q)).setOther (by simp; omega) _, R2.out.1, R2.out.2⟩, (hb.setCell (by simp; omega) _).setCell (Nat.le_refl _) _⟩
              case measure => simp [intOf]; omega
            · have hqk : q = k := by omega
              subst hqk
              go_wp2
              go_ret
              exact ⟨s, ⟨_, _, rfl, by omega, by unfold maxLen; omega, by omega, hs, hb⟩, H2.out⟩

end Go.Proofs.YtkebgnpifmcmaabGreat

/- The doubling of beginnings on a ring. Plain mathematics. -/
namespace Go.Proofs.YtkebgnpifmcmaabGreat
section
variable (N : Nat) (r : Nat → Nat)

def RR (x : Nat) : Nat := r (x % N)
def EqH (h a b : Nat) : Prop := ∀ j, j < h → RR N r (a + j) = RR N r (b + j)
def LtH (h a b : Nat) : Prop := ∃ m, m < h ∧ (∀ j, j < m → RR N r (a + j) = RR N r (b + j)) ∧ RR N r (a + m) < RR N r (b + m)

variable {N r}
theorem EqH.refl (h a : Nat) : EqH N r h a a := fun _ _ => rfl
theorem EqH.symm {h a b : Nat} (e : EqH N r h a b) : EqH N r h b a := fun j hj => (e j hj).symm
theorem EqH.trans {h a b c : Nat} (e : EqH N r h a b) (e' : EqH N r h b c) : EqH N r h a c := fun j hj => (e j hj).trans (e' j hj)
theorem LtH.not_eq {h a b : Nat} (l : LtH N r h a b) (e : EqH N r h a b) : False := by
  obtain ⟨m, hm, _, hl⟩ := l
  have := e m hm; omega
theorem LtH.irrefl {h a : Nat} (l : LtH N r h a a) : False := l.not_eq (EqH.refl h a)
theorem LtH.asymm {h a b : Nat} (l : LtH N r h a b) (l' : LtH N r h b a) : False := by
  obtain ⟨m, hm, he, hl⟩ := l
  obtain ⟨m', hm', he', hl'⟩ := l'
  rcases Nat.lt_trichotomy m m' with d | d | d
  · have := he' m d; omega
  · subst d; omega
  · have := he m' d; omega
theorem LtH.trans {h a b c : Nat} (l : LtH N r h a b) (l' : LtH N r h b c) : LtH N r h a c := by
  obtain ⟨m, hm, he, hl⟩ := l
  obtain ⟨m', hm', he', hl'⟩ := l'
  rcases Nat.lt_trichotomy m m' with d | d | d
  · exact ⟨m, hm, fun j hj => (he j hj).trans (he' j (by omega)), by have := he' m d; omega⟩
  · subst d; exact ⟨m, hm, fun j hj => (he j hj).trans (he' j hj), by omega⟩
  · exact ⟨m', hm', fun j hj => (he j (by omega)).trans (he' j hj), by have := he m' d; omega⟩
theorem LtH.trans_eq {h a b c : Nat} (l : LtH N r h a b) (e : EqH N r h b c) : LtH N r h a c := by
  obtain ⟨m, hm, he, hl⟩ := l
  exact ⟨m, hm, fun j hj => (he j hj).trans (e j (by omega)), by have := e m hm; omega⟩
theorem EqH.trans_lt {h a b c : Nat} (e : EqH N r h a b) (l : LtH N r h b c) : LtH N r h a c := by
  obtain ⟨m, hm, he, hl⟩ := l
  exact ⟨m, hm, fun j hj => (e j (by omega)).trans (he j hj), by have := e m hm; omega⟩
theorem EqH.three (h a b : Nat) : EqH N r h a b ∨ LtH N r h a b ∨ LtH N r h b a := by
  induction h with
  | zero => exact .inl (fun j hj => by omega)
  | succ h ih =>
    rcases ih with e | ⟨m, hm, he, hl⟩ | ⟨m, hm, he, hl⟩
    · rcases Nat.lt_trichotomy (RR N r (a + h)) (RR N r (b + h)) with d | d | d
      · exact .inr (.inl ⟨h, by omega, e, d⟩)
      · refine .inl (fun j hj => ?_)
        by_cases x : j = h
        · subst x; exact d
        · exact e j (by omega)
      · exact .inr (.inr ⟨h, by omega, fun j hj => (e j hj).symm, d⟩)
    · exact .inr (.inl ⟨m, by omega, he, hl⟩)
    · exact .inr (.inr ⟨m, by omega, he, hl⟩)
theorem EqH.double (h k a b : Nat) : EqH N r (h + k) a b ↔ EqH N r h a b ∧ EqH N r k (a + h) (b + h) := by
  constructor
  · intro e
    exact ⟨fun j hj => e j (by omega), fun j hj => by have := e (h + j) (by omega); rwa [← Nat.add_assoc, ← Nat.add_assoc] at this⟩
  · rintro ⟨e, e'⟩ j hj
    by_cases x : j < h
    · exact e j x
    · have := e' (j - h) (by omega)
      rwa [Nat.add_assoc, Nat.add_assoc, show h + (j - h) = j from by omega] at this
theorem LtH.double {h k a b : Nat} (l : LtH N r (h + k) a b) : LtH N r h a b ∨ (EqH N r h a b ∧ LtH N r k (a + h) (b + h)) := by
  obtain ⟨m, hm, he, hl⟩ := l
  by_cases x : m < h
  · exact .inl ⟨m, x, he, hl⟩
  · refine .inr ⟨fun j hj => he j (by omega), m - h, by omega, fun j hj => ?_, ?_⟩
    · have := he (h + j) (by omega); rwa [← Nat.add_assoc, ← Nat.add_assoc] at this
    · rw [Nat.add_assoc, Nat.add_assoc, show h + (m - h) = m from by omega]; exact hl
theorem RR_mod (a j : Nat) : RR N r (a % N + j) = RR N r (a + j) := by unfold RR; rw [Nat.mod_add_mod]
theorem EqH.mod {h a b : Nat} : EqH N r h (a % N) (b % N) ↔ EqH N r h a b := by unfold EqH; simp only [RR_mod]
theorem LtH.mod {h a b : Nat} : LtH N r h (a % N) (b % N) ↔ LtH N r h a b := by unfold LtH; simp only [RR_mod]

/-- The classes tell the beginnings of length h apart, in their order. -/
def Cls (N : Nat) (r : Nat → Nat) (h : Nat) (c : Nat → Nat) : Prop := ∀ a b, a < N → b < N → (c a < c b ↔ LtH N r h a b)
theorem Cls.eq {h : Nat} {c : Nat → Nat} (H : Cls N r h c) {a b : Nat} (ha : a < N) (hb : b < N) : c a = c b ↔ EqH N r h a b := by
  constructor
  · intro e
    rcases EqH.three (N := N) (r := r) h a b with x | x | x
    · exact x
    · have := (H a b ha hb).2 x; omega
    · have := (H b a hb ha).2 x; omega
  · intro e
    have h1 : ¬ c a < c b := fun x => ((H a b ha hb).1 x).not_eq e
    have h2 : ¬ c b < c a := fun x => ((H b a hb ha).1 x).not_eq e.symm
    omega

/-- The order: each place once; sorted by beginnings of length h. -/
structure Ord (N : Nat) (r : Nat → Nat) (h : Nat) (o : Nat → Nat) : Prop where
  lt : ∀ i, i < N → o i < N
  inj : ∀ i j, i < N → j < N → o i = o j → i = j
  sorted : ∀ i j, i < j → j < N → ¬ LtH N r h (o j) (o i)

theorem jd_mono (S : Nat → Nat → Bool) (o : Nat → Nat) {i j : Nat} (h : i ≤ j) : jd S o i ≤ jd S o j := by
  induction j with
  | zero => rw [show i = 0 from by omega]; exact Nat.le_refl _
  | succ j ih =>
    by_cases e : i = j + 1
    · subst e; exact Nat.le_refl _
    · have := ih (by omega); simp only [jd]; omega
theorem jd_parts {h : Nat} {o : Nat → Nat} {S : Nat → Nat → Bool} (O : Ord N r h o) (hS : ∀ a b, a < N → b < N → (S a b = true ↔ EqH N r h a b)) {i : Nat} : ∀ {j : Nat}, i ≤ j → j < N →
    (EqH N r h (o i) (o j) ∧ jd S o i = jd S o j) ∨ (LtH N r h (o i) (o j) ∧ jd S o i < jd S o j) := by
  intro j
  induction j with
  | zero => intro hij _; rw [show i = 0 from by omega]; exact .inl ⟨EqH.refl _ _, rfl⟩
  | succ j ih =>
    intro hij hj
    by_cases e : i = j + 1
    · subst e; exact .inl ⟨EqH.refl _ _, rfl⟩
    · have hle : EqH N r h (o j) (o (j + 1)) ∨ LtH N r h (o j) (o (j + 1)) := by
        rcases EqH.three (N := N) (r := r) h (o j) (o (j + 1)) with x | x | x
        · exact .inl x
        · exact .inr x
        · exact absurd x (O.sorted j (j + 1) (by omega) hj)
      have hSj := hS (o j) (o (j + 1)) (O.lt _ (by omega)) (O.lt _ hj)
      simp only [jd]
      rcases hle with x | x
      · rw [if_pos (hSj.2 x)]
        rcases ih (by omega) (by omega) with ⟨y, z⟩ | ⟨y, z⟩
        · exact .inl ⟨y.trans x, by omega⟩
        · exact .inr ⟨y.trans_eq x, by omega⟩
      · rw [if_neg (fun y => x.not_eq (hSj.1 y))]
        rcases ih (by omega) (by omega) with ⟨y, z⟩ | ⟨y, z⟩
        · exact .inr ⟨y.trans_lt x, by omega⟩
        · exact .inr ⟨y.trans x, by omega⟩

/-- What stands at the head of each round of the sort. -/
structure St (N : Nat) (r : Nat → Nat) (h : Nat) (o c : Nat → Nat) (kinds : Nat) : Prop where
  ord : Ord N r h o
  cls : Cls N r h c
  below : ∀ a, a < N → c a < kinds
  kinds_le : kinds ≤ N
  done : N ≤ kinds → ∀ i j, i < j → j < N → LtH N r h (o i) (o j)
  more : kinds < N → h < N

theorem St.of_join {h : Nat} {o f : Nat → Nat} {S : Nat → Nat → Bool} (hN : 0 < N) (hend : r (N - 1) = 0) (hpos : ∀ i, i < N - 1 → 0 < r i) (O : Ord N r h o) (hS : ∀ a b, a < N → b < N → (S a b = true ↔ EqH N r h a b))
    (hf : ∀ i, i < N → f (o i) = jd S o i) : St N r h o f (jd S o (N - 1) + 1) := by
  have hj := fun (i j : Nat) (hij : i ≤ j) (hjN : j < N) => jd_parts O hS hij hjN
  refine ⟨O, ?_, ?_, ?_, ?_, ?_⟩
  · intro a b ha hb
    obtain ⟨i, hi, rfl⟩ := surj_of_inj N o O.lt O.inj a ha
    obtain ⟨j, hjN, rfl⟩ := surj_of_inj N o O.lt O.inj b hb
    rw [hf i hi, hf j hjN]
    by_cases hij : i ≤ j
    · rcases hj i j hij hjN with ⟨x, y⟩ | ⟨x, y⟩
      · exact ⟨fun z => by omega, fun z => absurd x z.not_eq⟩
      · exact ⟨fun _ => x, fun _ => y⟩
    · have h1 := jd_mono S o (show j ≤ i by omega)
      exact ⟨fun z => by omega, fun z => absurd z (O.sorted j i (by omega) hi)⟩
  · intro a ha
    obtain ⟨i, hi, rfl⟩ := surj_of_inj N o O.lt O.inj a ha
    have := jd_mono S o (show i ≤ N - 1 by omega)
    rw [hf i hi]; omega
  · have := jd_le S o (N - 1); omega
  · intro hk i j hij hjN
    rcases hj i j (by omega) hjN with ⟨x, y⟩ | ⟨x, _⟩
    · exfalso
      -- between i and j a step is lost
      have h1 : jd S o (N - 1) ≤ N - 1 - j + jd S o j := by
        have key : ∀ m, j + m < N → jd S o (j + m) ≤ m + jd S o j := by
          intro m
          induction m with
          | zero => intro _; simp
          | succ m ih => intro hm; have := ih (by omega); rw [show j + (m + 1) = (j + m) + 1 from rfl]; simp only [jd]; split <;> omega
        have := key (N - 1 - j) (by omega)
        rwa [show j + (N - 1 - j) = N - 1 from by omega] at this
      have h2 := jd_le S o i
      omega
    · exact x
  · intro hk
    rcases Nat.lt_or_ge h N with x | x
    · exact x
    · exfalso
      have key : ∀ i, i < N → jd S o i = i := by
        intro i
        induction i with
        | zero => intro _; rfl
        | succ i ih =>
          intro hi
          have hne : o i ≠ o (i + 1) := fun e => by have := O.inj _ _ (by omega) hi e; omega
          have hnS : ¬ (S (o i) (o (i + 1)) = true) := by
            intro e
            have eq := (hS _ _ (O.lt i (by omega)) (O.lt (i + 1) hi)).1 e
            have la := O.lt i (by omega)
            have lb := O.lt (i + 1) hi
            have two : ∀ a b, a < b → b < N → EqH N r h a b → False := by
              intro a b hab hb eab
              have := eab (N - 1 - b) (by omega)
              unfold RR at this
              rw [show b + (N - 1 - b) = N - 1 from by omega, Nat.mod_eq_of_lt (show N - 1 < N by omega), hend, Nat.mod_eq_of_lt (show a + (N - 1 - b) < N by omega)] at this
              have := hpos (a + (N - 1 - b)) (by omega)
              omega
            rcases Nat.lt_or_ge (o i) (o (i + 1)) with d | d
            · exact two _ _ d lb eq
            · exact two _ _ (by omega) la eq.symm
          simp only [jd]; rw [if_neg hnS, ih (by omega)]
      have := key (N - 1) (by omega)
      omega

/-- The counting sort of places by their classes, behind an order by the second halves. -/
theorem Ord.double {h k : Nat} {o p c s : Nat → Nat} (O : Ord N r k o) (hp : ∀ i, i < N → p i < N) (hpo : ∀ i, i < N → (p i + h) % N = o i) (C : Cls N r h c) (hs : ∀ i, i < N → s (rk (fun i => c (p i)) N i) = p i) : Ord N r (h + k) s := by
  have sur := surj_of_inj N (rk (fun i => c (p i)) N) (fun i hi => rk_lt _ _ _ hi) (fun i j hi hj e => rk_inj _ _ hi hj e)
  refine ⟨?_, ?_, ?_⟩
  · intro x hx
    obtain ⟨i, hi, rfl⟩ := sur x hx
    rw [hs i hi]; exact hp i hi
  · intro x y hx hy e
    obtain ⟨i, hi, rfl⟩ := sur x hx
    obtain ⟨j, hj, rfl⟩ := sur y hy
    rw [hs i hi, hs j hj] at e
    have : o i = o j := by rw [← hpo i hi, ← hpo j hj, e]
    rw [O.inj i j hi hj this]
  · intro x y hxy hy l
    obtain ⟨i, hi, rfl⟩ := sur x (by omega)
    obtain ⟨j, hj, rfl⟩ := sur y hy
    rw [hs i hi, hs j hj] at l
    have hr := (rk_lt_iff (fun i => c (p i)) N hi hj).1 hxy
    rcases l.double with x | ⟨x, y⟩
    · have := (C (p j) (p i) (hp j hj) (hp i hi)).2 x
      rcases hr with d | ⟨d, _⟩
      · have d' : c (p i) < c (p j) := d
        omega
      · have d' : c (p i) = c (p j) := d
        omega
    · have he := (C.eq (hp j hj) (hp i hi)).2 x
      rcases hr with d | ⟨_, d⟩
      · have d' : c (p i) < c (p j) := d
        omega
      · rw [← LtH.mod, hpo j hj, hpo i hi] at y
        exact O.sorted i j d hj y

theorem halves_iff {h : Nat} {c : Nat → Nat} (hN : 0 < N) (C : Cls N r h c) (a b : Nat) (ha : a < N) (hb : b < N) : halvesB N c a b h = true ↔ EqH N r (h + h) a b := by
  unfold halvesB
  rw [Bool.and_eq_true, beq_iff_eq, beq_iff_eq, C.eq ha hb, C.eq (Nat.mod_lt _ hN) (Nat.mod_lt _ hN), EqH.mod, EqH.double]
theorem Cls.one (_hN : 0 < N) : Cls N r 1 r := by
  intro a b ha hb
  constructor
  · intro h
    refine ⟨0, by omega, fun j hj => by omega, ?_⟩
    unfold RR; rw [Nat.add_zero, Nat.add_zero, Nat.mod_eq_of_lt ha, Nat.mod_eq_of_lt hb]; exact h
  · rintro ⟨m, hm, _, hl⟩
    rw [show m = 0 from by omega] at hl
    unfold RR at hl; rwa [Nat.add_zero, Nat.add_zero, Nat.mod_eq_of_lt ha, Nat.mod_eq_of_lt hb] at hl
theorem halves_zero (a b : Nat) (hN : 0 < N) (ha : a < N) (hb : b < N) : halvesB N r a b 0 = true ↔ EqH N r 1 a b := by
  unfold halvesB
  rw [Nat.add_zero, Nat.add_zero, Nat.mod_eq_of_lt ha, Nat.mod_eq_of_lt hb, Bool.and_self, beq_iff_eq, (Cls.one hN).eq ha hb]

theorem Ord.init {s : Nat → Nat} (hN : 0 < N) (hs : ∀ i, i < N → s (rk (fun i => r i) N i) = i) : Ord N r 1 s := by
  have O0 : Ord N r 0 (fun i => (i + 1) % N) := by
    refine ⟨fun i hi => Nat.mod_lt _ hN, fun i j hi hj e => ?_, fun i j _ _ l => ?_⟩
    · have e' : (i + 1) % N = (j + 1) % N := e
      by_cases a : i + 1 = N
      · by_cases b : j + 1 = N
        · omega
        · rw [a, Nat.mod_self, Nat.mod_eq_of_lt (by omega)] at e'; omega
      · by_cases b : j + 1 = N
        · rw [b, Nat.mod_self, Nat.mod_eq_of_lt (by omega)] at e'; omega
        · rw [Nat.mod_eq_of_lt (by omega), Nat.mod_eq_of_lt (by omega)] at e'; omega
    · obtain ⟨m, hm, _⟩ := l; omega
  exact Ord.double (h := 1) (p := fun i => i) (c := r) (s := s) O0 (fun i hi => hi) (fun i hi => rfl) (Cls.one hN) hs
theorem St.init {s f : Nat → Nat} (hN : 0 < N) (hend : r (N - 1) = 0) (hpos : ∀ i, i < N - 1 → 0 < r i) (hs : ∀ i, i < N → s (rk (fun i => r i) N i) = i)
    (hf : ∀ i, i < N → f (s i) = jd (fun a b => halvesB N r a b 0) s i) : St N r 1 s f (jd (fun a b => halvesB N r a b 0) s (N - 1) + 1) :=
  St.of_join hN hend hpos (Ord.init hN hs) (fun a b ha hb => halves_zero a b hN ha hb) hf
theorem back_add (N h x : Nat) (hx : x < N) (h2 : h ≤ N) : (backBy N h x + h) % N = x := by
  unfold backBy
  rw [Nat.mod_add_mod, show x + N - h + h = x + N from by omega, Nat.add_mod_right, Nat.mod_eq_of_lt hx]
theorem St.stepOrd {h : Nat} {o c s : Nat → Nat} {kinds : Nat} (hN : 0 < N) (T : St N r h o c kinds) (hk : kinds < N)
    (hs : ∀ i, i < N → s (rk (fun i => c (backBy N h (o i))) N i) = backBy N h (o i)) : Ord N r (h + h) s := by
  have hh := T.more hk
  exact Ord.double (h := h) (p := fun i => backBy N h (o i)) T.ord (fun i hi => Nat.mod_lt _ hN) (fun i hi => back_add N h (o i) (T.ord.lt i hi) (by omega)) T.cls hs
theorem St.step {h : Nat} {o c s f : Nat → Nat} {kinds : Nat} (hN : 0 < N) (hend : r (N - 1) = 0) (hpos : ∀ i, i < N - 1 → 0 < r i) (T : St N r h o c kinds) (hk : kinds < N)
    (hs : ∀ i, i < N → s (rk (fun i => c (backBy N h (o i))) N i) = backBy N h (o i)) (hf : ∀ i, i < N → f (s i) = jd (fun a b => halvesB N c a b h) s i) :
    St N r (h + h) s f (jd (fun a b => halvesB N c a b h) s (N - 1) + 1) :=
  St.of_join hN hend hpos (T.stepOrd hN hk hs) (fun a b ha hb => halves_iff hN T.cls a b ha hb) hf
theorem St.perm {h : Nat} {o c : Nat → Nat} {kinds : Nat} (hN : 0 < N) (T : St N r h o c kinds) (hh : h ≤ N) (x : Nat) : cnt (fun i => c (backBy N h (o i))) x N = cnt c x N :=
  cnt_perm N c (fun i => backBy N h (o i)) (fun i _ => Nat.mod_lt _ hN) (fun i j hi hj e => by
    have e' : backBy N h (o i) = backBy N h (o j) := e
    have h1 := back_add N h (o i) (T.ord.lt i hi) hh
    rw [e', back_add N h (o j) (T.ord.lt j hj) hh] at h1
    exact T.ord.inj i j hi hj h1.symm) x
end
end Go.Proofs.YtkebgnpifmcmaabGreat

/- The order of suffixes; suffix arrays; there is one. Plain mathematics. -/
namespace Go.Proofs.YtkebgnpifmcmaabGreat

def bl (x y : List UInt8) : Bool := Op.bytesLess x y
theorem bl_nil_right (x : List UInt8) : bl x [] = false := by unfold bl; cases x <;> rfl
theorem bl_nil_cons (b : UInt8) (y : List UInt8) : bl [] (b :: y) = true := rfl
theorem bl_cons (a b : UInt8) (x y : List UInt8) : bl (a :: x) (b :: y) = (decide (a < b) || (a == b && bl x y)) := rfl
theorem bl_irrefl (x : List UInt8) : bl x x = false := by
  induction x with
  | nil => rfl
  | cons a x ih => rw [bl_cons, ih]; simp
theorem u8_lt_iff (a b : UInt8) : a < b ↔ a.toNat < b.toNat := UInt8.lt_iff_toNat_lt
theorem u8_eq_iff (a b : UInt8) : a = b ↔ a.toNat = b.toNat := ⟨fun h => by rw [h], fun h => UInt8.toNat_inj.1 h⟩
theorem bl_cons_iff (a b : UInt8) (x y : List UInt8) : bl (a :: x) (b :: y) = true ↔ a.toNat < b.toNat ∨ (a.toNat = b.toNat ∧ bl x y = true) := by
  rw [bl_cons]; simp [u8_lt_iff, u8_eq_iff]
theorem bl_asymm {x y : List UInt8} (h : bl x y = true) : bl y x = false := by
  induction x generalizing y with
  | nil => exact bl_nil_right _
  | cons a x ih =>
    cases y with
    | nil => rw [bl_nil_right] at h; cases h
    | cons b y =>
      rw [← Bool.not_eq_true, bl_cons_iff]
      rcases (bl_cons_iff a b x y).1 h with d | ⟨d, e⟩
      · rintro (z | ⟨z, _⟩) <;> omega
      · rintro (z | ⟨_, z⟩)
        · omega
        · rw [ih e] at z; cases z
theorem bl_trans {x y z : List UInt8} (h : bl x y = true) (h' : bl y z = true) : bl x z = true := by
  induction x generalizing y z with
  | nil =>
    cases z with
    | nil => rw [bl_nil_right] at h'; cases h'
    | cons c z => rfl
  | cons a x ih =>
    cases y with
    | nil => rw [bl_nil_right] at h; cases h
    | cons b y =>
      cases z with
      | nil => rw [bl_nil_right] at h'; cases h'
      | cons c z =>
        rw [bl_cons_iff] at h h' ⊢
        rcases h with d | ⟨d, e⟩
        · rcases h' with d' | ⟨d', _⟩
          · exact .inl (by omega)
          · exact .inl (by omega)
        · rcases h' with d' | ⟨d', e'⟩
          · exact .inl (by omega)
          · exact .inr ⟨by omega, ih e e'⟩
theorem bl_total {x y : List UInt8} (h : x ≠ y) : bl x y = true ∨ bl y x = true := by
  induction x generalizing y with
  | nil =>
    cases y with
    | nil => exact absurd rfl h
    | cons b y => exact .inl rfl
  | cons a x ih =>
    cases y with
    | nil => exact .inr rfl
    | cons b y =>
      rw [bl_cons_iff, bl_cons_iff]
      rcases Nat.lt_trichotomy a.toNat b.toNat with d | d | d
      · exact .inl (.inl d)
      · have hab := (u8_eq_iff a b).2 d
        subst hab
        have : x ≠ y := fun e => h (by rw [e])
        rcases ih this with e | e
        · exact .inl (.inr ⟨rfl, e⟩)
        · exact .inr (.inr ⟨rfl, e⟩)
      · exact .inr (.inl d)

/-- The suffix from a goes ahead of that from b. -/
def sl (t : List UInt8) (a b : Nat) : Bool := bl (t.drop a) (t.drop b)
theorem drop_ne {t : List UInt8} {a b : Nat} (ha : a ≤ t.length) (hb : b ≤ t.length) (h : a ≠ b) : t.drop a ≠ t.drop b := by
  intro e
  have := congrArg List.length e
  simp at this; omega
theorem sl_total {t : List UInt8} {a b : Nat} (ha : a ≤ t.length) (hb : b ≤ t.length) (h : a ≠ b) : sl t a b = true ∨ sl t b a = true := bl_total (drop_ne ha hb h)
theorem sl_irrefl (t : List UInt8) (a : Nat) : sl t a a = false := bl_irrefl _
theorem sl_asymm {t : List UInt8} {a b : Nat} (h : sl t a b = true) : sl t b a = false := bl_asymm h
theorem sl_trans {t : List UInt8} {a b c : Nat} (h : sl t a b = true) (h' : sl t b c = true) : sl t a c = true := bl_trans h h'

/-- f tells the places of the suffixes of t, in the order of the suffixes. -/
structure IsSA (t : List UInt8) (f : Nat → Nat) : Prop where
  le : ∀ i, i ≤ t.length → f i ≤ t.length
  lt : ∀ i j, i < j → j ≤ t.length → sl t (f i) (f j) = true
theorem IsSA.inj {t : List UInt8} {f : Nat → Nat} (F : IsSA t f) {i j : Nat} (hi : i ≤ t.length) (hj : j ≤ t.length) (e : f i = f j) : i = j := by
  rcases Nat.lt_trichotomy i j with d | d | d
  · have := F.lt i j d hj; rw [e, sl_irrefl] at this; cases this
  · exact d
  · have := F.lt j i d hi; rw [e, sl_irrefl] at this; cases this
theorem IsSA.surj {t : List UInt8} {f : Nat → Nat} (F : IsSA t f) {x : Nat} (hx : x ≤ t.length) : ∃ i, i ≤ t.length ∧ f i = x := by
  obtain ⟨i, hi, e⟩ := surj_of_inj (t.length + 1) f (fun i hi => by have := F.le i (by omega); omega) (fun i j hi hj e => F.inj (by omega) (by omega) e) x (by omega)
  exact ⟨i, by omega, e⟩
theorem IsSA.lt_iff {t : List UInt8} {f : Nat → Nat} (F : IsSA t f) {i j : Nat} (hi : i ≤ t.length) (hj : j ≤ t.length) : sl t (f i) (f j) = true ↔ i < j := by
  refine ⟨fun h => ?_, fun h => F.lt i j h hj⟩
  rcases Nat.lt_trichotomy i j with d | d | d
  · exact d
  · subst d; rw [sl_irrefl] at h; cases h
  · have := F.lt j i d hi; rw [sl_asymm this] at h; cases h
theorem IsSA.unique {t : List UInt8} {f g : Nat → Nat} (F : IsSA t f) (G : IsSA t g) : ∀ i, i ≤ t.length → f i = g i := by
  intro i
  induction i using Nat.strongRecOn with
  | _ i ih =>
    intro hi
    obtain ⟨k, hk, ek⟩ := G.surj (F.le i hi)
    obtain ⟨k', hk', ek'⟩ := F.surj (G.le i hi)
    have h1 : ¬ k < i := fun h => by
      have := ih k h hk
      have := F.inj (i := i) (j := k) hi hk (by omega)
      omega
    have h2 : ¬ k' < i := fun h => by
      have := ih k' h hk'
      have := G.inj (i := i) (j := k') hi hk' (by omega)
      omega
    by_cases e : k = i
    · subst e; exact ek.symm
    · by_cases e' : k' = i
      · subst e'; exact ek'
      · have a := G.lt i k (by omega) hk
        have b := F.lt i k' (by omega) hk'
        rw [ek] at a
        rw [ek'] at b
        rw [sl_asymm a] at b; cases b

/-- The ring of a text. -/
def ringL (t : List UInt8) (i : Nat) : Nat := match t[i]? with | some c => c.toNat + 1 | none => 0
theorem ringL_lt {t : List UInt8} {i : Nat} (h : i < t.length) : ringL t i = t[i].toNat + 1 := by simp [ringL, h]
theorem ringL_end {t : List UInt8} {i : Nat} (h : t.length ≤ i) : ringL t i = 0 := by simp [ringL, h]
theorem ring_less {t : List UInt8} : ∀ (m a b : Nat), a ≤ t.length → b ≤ t.length → (∀ j, j < m → RR (t.length + 1) (ringL t) (a + j) = RR (t.length + 1) (ringL t) (b + j)) →
    RR (t.length + 1) (ringL t) (a + m) < RR (t.length + 1) (ringL t) (b + m) → sl t a b = true := by
  intro m
  induction m with
  | zero =>
    intro a b ha hb _ h
    unfold RR at h
    simp only [Nat.add_zero] at h
    rw [Nat.mod_eq_of_lt (by omega), Nat.mod_eq_of_lt (by omega)] at h
    have hbl : b < t.length := by
      rcases Nat.lt_or_ge b t.length with x | x
      · exact x
      · rw [ringL_end x] at h; omega
    unfold sl
    rw [List.drop_eq_getElem_cons hbl]
    rcases Nat.lt_or_ge a t.length with x | x
    · rw [List.drop_eq_getElem_cons x, bl_cons_iff]
      rw [ringL_lt x, ringL_lt hbl] at h
      exact .inl (by omega)
    · rw [List.drop_eq_nil_of_le x]; rfl
  | succ m ih =>
    intro a b ha hb he h
    have h0 := he 0 (by omega)
    unfold RR at h0
    simp only [Nat.add_zero] at h0
    rw [Nat.mod_eq_of_lt (by omega), Nat.mod_eq_of_lt (by omega)] at h0
    rcases Nat.lt_or_ge a t.length with x | x
    · rcases Nat.lt_or_ge b t.length with y | y
      · rw [ringL_lt x, ringL_lt y] at h0
        have := ih (a + 1) (b + 1) (by omega) (by omega) (fun j hj => by have := he (j + 1) (by omega); rwa [show a + (j + 1) = a + 1 + j from by omega, show b + (j + 1) = b + 1 + j from by omega] at this) (by rwa [show a + (m + 1) = a + 1 + m from by omega, show b + (m + 1) = b + 1 + m from by omega] at h)
        unfold sl at this ⊢
        rw [List.drop_eq_getElem_cons x, List.drop_eq_getElem_cons y, bl_cons_iff]
        exact .inr ⟨by omega, this⟩
      · rw [ringL_lt x, ringL_end y] at h0; omega
    · rcases Nat.lt_or_ge b t.length with y | y
      · rw [ringL_end x, ringL_lt y] at h0; omega
      · rw [show a = b from by omega] at h; omega
theorem St.sa {t : List UInt8} {h : Nat} {o c : Nat → Nat} {kinds : Nat} (T : St (t.length + 1) (ringL t) h o c kinds) (hk : t.length + 1 ≤ kinds) : IsSA t o := by
  refine ⟨fun i hi => by have := T.ord.lt i (by omega); omega, fun i j hij hj => ?_⟩
  obtain ⟨m, _, he, hl⟩ := T.done hk i j hij (by omega)
  exact ring_less m (o i) (o j) (by have := T.ord.lt i (by omega); omega) (by have := T.ord.lt j (by omega); omega) he hl

/-- The bytes of a string. -/
def tx (s : ByteArray) : List UInt8 := s.data.toList
theorem tx_length (s : ByteArray) : (tx s).length = s.size := by simp [tx]
theorem tx_get (s : ByteArray) (i : Nat) (_h : i < s.size) (h' : i < (tx s).length) : (tx s)[i] = s[i] := by simp [tx]; rfl
theorem ringAt_tx (s : ByteArray) : ringAt s = ringL (tx s) := by
  funext i
  by_cases h : i < s.size
  · rw [ringAt_lt s i h, ringL_lt (by rw [tx_length]; exact h), tx_get s i h]; rfl
  · rw [ringAt_end s i h, ringL_end (by rw [tx_length]; omega)]

end Go.Proofs.YtkebgnpifmcmaabGreat

namespace Go.Proofs.YtkebgnpifmcmaabGreat
open Go.RowKit

/-- What stands at the head of a round of the sort. -/
structure SortInv (s : ByteArray) (w wr : World) (vc vo vk vw : Value) (h kinds : Nat) : Prop where
  ex : ∃ go capo gc capc o c, vo = .slice (some ⟨go, 0, none⟩) (s.size + 1) capo ∧ vc = .slice (some ⟨gc, 0, none⟩) (s.size + 1) capc ∧ vk = .int .i64 (kinds : Int) ∧ vw = .int .i64 (h : Int) ∧ Row wr go 3 (s.size + 1) (IN o) ∧ Row wr gc 3 (s.size + 1) (IN c) ∧
    w.heap.size ≤ go ∧ s.size + 1 ≤ capo ∧ capo ≤ maxLen ∧ St (s.size + 1) (ringAt s) h o c kinds
  bel : Below w.heap.size w wr
  one : 1 ≤ h
  two : h < 2 * (s.size + 1)

set_option maxRecDepth 10000 in
set_option maxHeartbeats 1000000 in
theorem sort_any (s : ByteArray) (w : World) (hn : s.size ≤ 2000) :
    Calls Tryz.prog 65 #[.string s] w fun e w' => ∃ f, NewN w w' e (s.size + 1) f ∧ IsSA (tx s) f := by
  have HE : Hid (ringAt s (s.size + 1 - 1) = 0) := ringAt_end s _ (by omega)
  have HP : Hid (∀ i, i < s.size + 1 - 1 → 0 < ringAt s i) := fun i hi => by rw [ringAt_lt s i (by omega)]; omega
  have HB : Hid (∀ i, i < s.size + 1 → ringAt s i < 257) := fun i _ => by
    unfold ringAt; split
    · next h => have := (s[i]).toNat_lt; omega
    · omega
  have ec : ((s.size : Int) + 1) = ((s.size + 1 : Nat) : Int) := by omega
  have EC := show Hid _ from ec
  clear ec
  go_enter Tryz.func65, Tryz.ntmps65
  go_wp2_with fail
  refine (classesOfBytes_any s _ hn).mono ?_
  rintro e w1 ⟨gc, capc, rfl, hcc1, hcc2, hgc, hrc, hb1⟩
  go_wp2_with fail
  rw [EC.out]
  refine (allPlaces_any (s.size + 1) _ (by omega)).mono ?_
  rintro e w2 ⟨gp, capp, rfl, hcp1, hcp2, hgp, hrp, hb2⟩
  have hclt := hrc.lt
  have hrc2 := hrc.below hb2 hclt
  go_wp2_with fail
  refine (sortByClass_any gp (s.size + 1) capp gc capc 257 (fun j => j) (ringAt s) _ (by omega) (by omega) hrp hrc2 (fun j hj => hj) HB.out (fun x => rfl)).mono ?_
  rintro e w3 ⟨o, ⟨go, capo, rfl, hco1, hco2, hgo, hro, hb3⟩, hos⟩
  have hrc3 := hrc2.below hb3 hrc2.lt
  have O1 : Hid (∀ i, i < s.size + 1 → o i < s.size + 1) := (Ord.init (r := ringAt s) (by omega) hos).lt
  have O2 : Hid (∀ i j, i < s.size + 1 → j < s.size + 1 → o i = o j → i = j) := (Ord.init (r := ringAt s) (by omega) hos).inj
  go_wp2_with fail
  refine (joinClasses_any go (s.size + 1) capo gc capc 0 o (ringAt s) _ (by omega) (by omega) hro hrc3 O1.out O2.out (by omega)).mono ?_
  rintro e w4 ⟨gf, capf, f, rfl, hgf, hrf, hb4, hff⟩
  have T0 : St (s.size + 1) (ringAt s) 1 o f (jd (fun a b => halvesB (s.size + 1) (ringAt s) a b 0) o (s.size + 1 - 1) + 1) := St.init (by omega) HE.out HP.out hos hff
  have hz1 := hb1.size
  have hz2 := hb2.size
  have hz3 := hb3.size
  have I0 : SortInv s w w4 (.slice (some ⟨gf, 0, none⟩) (s.size + 1) capf) (.slice (some ⟨go, 0, none⟩) (s.size + 1) capo) (.int .i64 ((jd (fun a b => halvesB (s.size + 1) (ringAt s) a b 0) o (s.size + 1 - 1) + 1 : Nat) : Int)) (.int .i64 ((1 : Nat) : Int)) 1 (jd (fun a b => halvesB (s.size + 1) (ringAt s) a b 0) o (s.size + 1 - 1) + 1) :=
    ⟨⟨go, capo, gf, capf, o, f, rfl, rfl, rfl, rfl, hro.below hb4 hro.lt, hrf, by omega, hco1, hco2, T0⟩, hb1.trans ((hb2.mono hz1).trans ((hb3.mono (by omega)).trans (hb4.mono (by omega)))), by omega, by omega⟩
  clear T0 hff hrf hro hos hrc3 hrc2 hrc hrp hb1 hb2 hb3 hb4 O1 O2
  generalize jd (fun a b => halvesB (s.size + 1) (ringAt s) a b 0) o (s.size + 1 - 1) + 1 = K0 at *
  go_wp2_with fail
  go_loopw [3, 4, 5, 6] (fun vc vo vk vw wr => ∃ h kinds, SortInv s w wr vc vo vk vw h kinds) (fun _ _ _ vw _ => 2 * (s.size + 1) - (intOf vw).toNat)
  case atStart => exact ⟨1, K0, I0⟩
  case round =>
    clear I0
    obtain ⟨h, kinds, ⟨go, capo, gc, capc, o, c, rfl, rfl, rfl, rfl, hro, hrc, hgo, hco1, hco2, T⟩, hb, h1, h2⟩ := hrel
    have HT : Hid (St (s.size + 1) (ringAt s) h o c kinds) := T
    clear T
    have hkl := HT.out.kinds_le
    by_cases hlt : kinds < s.size + 1
    · have hhN := HT.out.more hlt
      have hclt := hrc.lt
      have hsz := hb.size
      go_wp2_with fail
      refine (stepBack_any go (s.size + 1) capo h o _ (by omega) (by omega) hro HT.out.ord.lt (by omega)).mono ?_
      rintro e w5 ⟨gp, capp, rfl, hcp1, hcp2, hgp, hrp, hb5⟩
      have hrc5 := hrc.below hb5 hclt
      go_wp2_with fail
      refine (sortByClass_any gp (s.size + 1) capp gc capc kinds (fun j => backBy (s.size + 1) h (o j)) c _ (by omega) (by omega) hrp hrc5 (fun j hj => Nat.mod_lt _ (by omega)) HT.out.below (HT.out.perm (by omega) (by omega))).mono ?_
      rintro e w6 ⟨o2, ⟨go2, capo2, rfl, hcq1, hcq2, hgq, hrq, hb6⟩, hos⟩
      have hrc6 := hrc5.below hb6 hrc5.lt
      have O := HT.out.stepOrd (by omega) hlt hos
      have O1 : Hid (∀ i, i < s.size + 1 → o2 i < s.size + 1) := O.lt
      have O2 : Hid (∀ i j, i < s.size + 1 → j < s.size + 1 → o2 i = o2 j → i = j) := O.inj
      clear O
      go_wp2_with fail
      refine (joinClasses_any go2 (s.size + 1) capo2 gc capc h o2 c _ (by omega) (by omega) hrq hrc6 O1.out O2.out (by omega)).mono ?_
      rintro e w7 ⟨gf, capf, f, rfl, hgf, hrf, hb7, hff⟩
      have T1 := HT.out.step (by omega) HE.out HP.out hlt hos hff
      have hz5 := hb5.size
      have hz6 := hb6.size
      have I1 : SortInv s w w7 (.slice (some ⟨gf, 0, none⟩) (s.size + 1) capf) (.slice (some ⟨go2, 0, none⟩) (s.size + 1) capo2) (.int .i64 ((jd (fun a b => halvesB (s.size + 1) c a b h) o2 (s.size + 1 - 1) + 1 : Nat) : Int)) (.int .i64 ((h + h : Nat) : Int)) (h + h) (jd (fun a b => halvesB (s.size + 1) c a b h) o2 (s.size + 1 - 1) + 1) :=
        ⟨⟨go2, capo2, gf, capf, o2, f, rfl, rfl, rfl, rfl, hrq.below hb7 hrq.lt, hrf, by omega, hcq1, hcq2, T1⟩, hb.trans ((hb5.mono hsz).trans ((hb6.mono (by omega)).trans (hb7.mono (by omega)))), by omega, by omega⟩
      clear T1 hff hrf hro hos hrc6 hrc5 hrc hrp hb5 hb6 hb7 O1 O2 hrq
      generalize jd (fun a b => halvesB (s.size + 1) c a b h) o2 (s.size + 1 - 1) + 1 = K1 at *
      go_wp2
      go_roundw
      case rel => 
        refine ⟨h + h, K1, ?_⟩
        rw [show (h : Int) * 2 = ((h + h : Nat) : Int) from by omega]
        exact I1
      case measure => simp [intOf]; omega
    · go_wp2
      go_ret
      refine ⟨o, ⟨_, _, rfl, hco1, hco2, hgo, hro, hb⟩, ?_⟩
      have T := HT.out
      rw [ringAt_tx, ← tx_length s] at T
      exact T.sa (by rw [tx_length]; omega)
end Go.Proofs.YtkebgnpifmcmaabGreat

namespace Go.Proofs.YtkebgnpifmcmaabGreat
open Go.RowKit

def RL (f : Nat → Nat) (m : Nat) : List Value := (List.range m).map (IN f)
theorem RL_get (f : Nat → Nat) (m j : Nat) (h : j < m) : (RL f m)[j]? = some (IN f j) := by simp [RL, h]
theorem RL_length (f : Nat → Nat) (m : Nat) : (RL f m).length = m := by simp [RL]
theorem RL_succ (f : Nat → Nat) (m x : Nat) : RL f m ++ [.int .i64 (x : Int)] = RL (upd f m x) (m + 1) := by
  unfold RL
  rw [List.range_succ, List.map_append]
  congr 1
  · refine List.map_congr_left (fun j hj => ?_)
    have := List.mem_range.1 hj
    simp only [IN]; rw [upd_ne _ _ _ (by omega)]
  · simp only [List.map_cons, List.map_nil, IN]; rw [upd_at]
theorem RL_set (f : Nat → Nat) (m j x : Nat) : (RL f m).set j (.int .i64 (x : Int)) = RL (upd f j x) m := by
  apply List.ext_getElem?
  intro i
  rw [List.getElem?_set]
  by_cases e : j = i
  · subst e
    by_cases h : j < m
    · simp [RL, h, IN, upd]
    · simp [RL, h]
  · rw [if_neg e]
    by_cases h : i < m
    · rw [RL_get _ _ _ h, RL_get _ _ _ h]; simp only [IN]; rw [upd_ne _ _ _ (fun h => e h.symm)]
    · simp [RL, h]

/-- The rows so far: the places behind n - m, sorted. -/
structure SS (t : List UInt8) (m : Nat) (f : Nat → Nat) : Prop where
  lo : ∀ j, j < m → t.length < f j + m
  hi : ∀ j, j < m → f j ≤ t.length
  lt : ∀ j k, j < k → k < m → sl t (f j) (f k) = true

theorem own_shape {w : World} {base : Nat} {v : Value} {m : Nat} {f : Nat → Nat} (h : w.ownsRow base 3 1 v m (RL f m)) :
    ∃ ao cap, v = .slice ao m cap ∧ (0 < m → ∃ g, ao = some ⟨g, 0, none⟩ ∧ base ≤ g ∧ Row w g 3 m (IN f)) := by
  rcases h.2 with ⟨hv, h0⟩ | ⟨g, cap, cur, hv, hb, hg, hnc, hcm, hcs, htake⟩
  · exact ⟨none, 0, by rw [hv, h0], fun x => by omega⟩
  · refine ⟨some ⟨g, 0, none⟩, cap, hv, fun _ => ⟨g, rfl, hb, ?_⟩⟩
    subst hv
    exact Row.owned h (fun j hj => RL_get f m j hj)

theorem own_next {w : World} {base : Nat} {v : Value} {m x : Nat} {f : Nat → Nat} (h : w.ownsRow base 3 1 v (m + 1) (RL f m ++ [.int .i64 (x : Int)])) :
    ∃ g cap, v = .slice (some ⟨g, 0, none⟩) (m + 1) cap ∧ base ≤ g ∧ m + 1 ≤ cap ∧ cap ≤ maxLen ∧ w.ownsRow base 3 1 (.slice (some ⟨g, 0, none⟩) (m + 1) cap) (m + 1) (RL (upd f m x) (m + 1)) := by
  rw [RL_succ] at h
  rcases h.2 with ⟨hv, h0⟩ | ⟨g, cap, cur, hv, hb, hg, hnc, hcm, hcs, htake⟩
  · omega
  · subst hv
    exact ⟨g, cap, rfl, hb, hnc, hcm, h⟩
theorem own_row {w : World} {base g m cap : Nat} {f : Nat → Nat} (h : w.ownsRow base 3 1 (.slice (some ⟨g, 0, none⟩) m cap) m (RL f m)) : Row w g 3 m (IN f) := Row.owned h (fun j hj => RL_get f m j hj)
theorem own_set {w : World} {base g m cap : Nat} {f : Nat → Nat} (h : w.ownsRow base 3 1 (.slice (some ⟨g, 0, none⟩) m cap) m (RL f m)) (j x : Nat) : (w.setCell ⟨g, j, none⟩ (.int .i64 (x : Int))).ownsRow base 3 1 (.slice (some ⟨g, 0, none⟩) m cap) m (RL (upd f j x) m) := by
  rw [← RL_set]; exact (h.stored j _).1
theorem own_congr {w : World} {base : Nat} {v : Value} {m : Nat} {f g : Nat → Nat} (h : w.ownsRow base 3 1 v m (RL f m)) (e : ∀ j, j < m → f j = g j) : w.ownsRow base 3 1 v m (RL g m) := by
  have : RL f m = RL g m := List.map_congr_left (fun j hj => by simp only [IN, e j (List.mem_range.1 hj)])
  rw [← this]; exact h

theorem less_ext (s : ByteArray) (x y : Nat) : Op.bytesLess (s.extract x s.size).toList (s.extract y s.size).toList = sl (tx s) x y := by
  rw [Lib.toList_data, Lib.toList_data, Lib.extract_to_end, Lib.extract_to_end]; rfl
theorem search_yes {t : List UInt8} {m k i : Nat} {f : Nat → Nat} (S : SS t m f) (hk : k < m) (h : sl t (f k) i = true) : ∀ j, j < k + 1 → sl t (f j) i = true := by
  intro j hj
  by_cases e : j = k
  · subst e; exact h
  · exact sl_trans (S.lt j k (by omega) hk) h
theorem search_no {t : List UInt8} {m k i : Nat} {f : Nat → Nat} (S : SS t m f) (h : sl t (f k) i = false) : ∀ j, k ≤ j → j < m → sl t (f j) i = false := by
  intro j hj hjm
  by_cases e : j = k
  · subst e; exact h
  · rw [← Bool.not_eq_true]
    intro x
    have := sl_trans (S.lt k j (by omega) hjm) x
    rw [h] at this; cases this
/-- The list with i put in at a. -/
def ins (f : Nat → Nat) (a i j : Nat) : Nat := if j < a then f j else if j = a then i else f (j - 1)
theorem SS.ins {t : List UInt8} {m a i : Nat} {f : Nat → Nat} (S : SS t m f) (hi : i + m = t.length) (ha : a ≤ m) (h1 : ∀ j, j < a → sl t (f j) i = true) (h2 : ∀ j, a ≤ j → j < m → sl t (f j) i = false) : SS t (m + 1) (ins f a i) := by
  have h2' : ∀ j, a ≤ j → j < m → sl t i (f j) = true := by
    intro j hj hjm
    have := S.lo j hjm
    rcases sl_total (t := t) (a := i) (b := f j) (by omega) (S.hi j hjm) (by omega) with x | x
    · exact x
    · rw [h2 j hj hjm] at x; cases x
  refine ⟨fun j hj => ?_, fun j hj => ?_, fun j k hjk hk => ?_⟩
  · unfold Proofs.YtkebgnpifmcmaabGreat.ins
    split
    · have := S.lo j (by omega); omega
    · split
      · omega
      · have := S.lo (j - 1) (by omega); omega
  · unfold Proofs.YtkebgnpifmcmaabGreat.ins
    split
    · exact S.hi j (by omega)
    · split
      · omega
      · exact S.hi (j - 1) (by omega)
  · unfold Proofs.YtkebgnpifmcmaabGreat.ins
    by_cases ja : j < a
    · rw [if_pos ja]
      by_cases ka : k < a
      · rw [if_pos ka]; exact S.lt j k hjk (by omega)
      · rw [if_neg ka]
        by_cases ke : k = a
        · rw [if_pos ke]; exact h1 j ja
        · rw [if_neg ke]; exact S.lt j (k - 1) (by omega) (by omega)
    · rw [if_neg ja, if_neg (show ¬ k < a by omega), if_neg (show ¬ k = a by omega)]
      by_cases je : j = a
      · rw [if_pos je]; exact h2' (k - 1) (by omega) (by omega)
      · rw [if_neg je]; exact S.lt (j - 1) (k - 1) (by omega) (by omega)
theorem SS.sa {t : List UInt8} {f : Nat → Nat} (S : SS t (t.length + 1) f) : IsSA t f := ⟨fun i hi => S.hi i (by omega), fun i j hij hj => S.lt i j hij (by omega)⟩
theorem SS.congr {t : List UInt8} {m : Nat} {f g : Nat → Nat} (S : SS t m f) (h : ∀ j, j < m → f j = g j) : SS t m g :=
  ⟨fun j hj => by rw [← h j hj]; exact S.lo j hj, fun j hj => by rw [← h j hj]; exact S.hi j hj, fun j k hjk hk => by rw [← h j (by omega), ← h k hk]; exact S.lt j k hjk hk⟩

set_option maxRecDepth 10000 in
set_option maxHeartbeats 1000000 in
theorem rows_any (s : ByteArray) (w : World) (hn : s.size ≤ 2000) :
    Calls Tryz.prog 66 #[.string s] w fun e w' => ∃ f, NewN w w' e (s.size + 1) f ∧ IsSA (tx s) f := by
  obtain ⟨i0, hi, hz0, hz1, hz2⟩ := info_parts Tryz.info3
  go_enter Tryz.func66, Tryz.ntmps66
  go_wp2_with fail
  go_loopw [3, 4] (fun v i wr => ∃ m f, m ≤ s.size + 1 ∧ i = .int .i64 ((s.size : Int) - (m : Nat)) ∧ wr.ownsRow w.heap.size 3 1 v m (RL f m) ∧ Hid (SS (tx s) m f) ∧ Below w.heap.size w wr) (fun _ i _ => (intOf i + 1).toNat)
  case atStart => exact ⟨0, fun _ => 0, by omega, by simp, World.ownsRow_nil _ _ _ _, ⟨fun j hj => by omega, fun j hj => by omega, fun j k _ hk => by omega⟩, Below.refl _ _⟩
  case round =>
    obtain ⟨m, f, hm, rfl, hown, HS, hb⟩ := hrel
    obtain ⟨ao, cap, rfl, hao⟩ := own_shape hown
    by_cases hlt : m ≤ s.size
    · go_wp2_with fail
      go_loopw [5, 6, 7] (fun lo hi _ wq => ∃ a b : Nat, a ≤ b ∧ b ≤ m ∧ lo = .int .i64 (a : Int) ∧ hi = .int .i64 (b : Int) ∧ (∃ q, wq = wr.drewN q) ∧ Hid (∀ j, j < a → sl (tx s) (f j) (s.size - m) = true) ∧ Hid (∀ j, b ≤ j → j < m → sl (tx s) (f j) (s.size - m) = false)) (fun lo hi _ _ => (intOf hi - intOf lo).toNat)
      case atStart => exact ⟨0, m, by omega, by omega, rfl, rfl, ⟨0, rfl⟩, fun j hj => by omega, fun j h1 h2 => by omega⟩
      case round =>
        obtain ⟨a, b, hab, hbm, rfl, rfl, ⟨q, rfl⟩, H1, H2⟩ := hrel
        by_cases hab' : a < b
        · obtain ⟨g, rfl, hg, hr⟩ := hao (by omega)
          have hmid := hr.cell (show (a + b) / 2 < m by omega)
          rw [IN_at] at hmid
          have hfm := HS.out.hi ((a + b) / 2) (by omega)
          rw [tx_length] at hfm
          go_wp2
          go_quiet (fail)
          go_wp2
          · have hyes : Op.bytesLess (s.extract (f ((a + b) / 2)) s.size).toList (s.extract (s.size - m) s.size).toList = true := by assumption
            rw [less_ext] at hyes
            go_roundw
            case rel => exact ⟨(a + b) / 2 + 1, b, by omega, by omega, by go_num, rfl, ⟨_, rfl⟩, search_yes HS.out (by omega) hyes, H2⟩
            case measure => simp [intOf]; omega
          · have hno : Op.bytesLess (s.extract (f ((a + b) / 2)) s.size).toList (s.extract (s.size - m) s.size).toList = false := by assumption
            rw [less_ext] at hno
            go_roundw
            case rel => exact ⟨a, (a + b) / 2, by omega, by omega, rfl, by go_num, ⟨q + nq, by rw [World.drewN_drewN]⟩, H1, search_no HS.out hno⟩
            case measure => simp [intOf]; omega
        · have hab2 : a = b := by omega
          subst hab2
          have hsz := hb.size
          have hown' : (wr.drewN q).ownsRow w.heap.size 3 1 (.slice ao m cap) m (RL f m) := hown
          have hb' := bdrewN hb q
          clear hown hb
          generalize wr.drewN q = wa at *
          have hsz' := hb'.size
          go_wp2_with (at_builtin; refine wpList_append_own _ rfl (.tmp 37) (.tmp 38) 32 rfl w.heap.size 3 i0 (.int .i64 0) 1 8 Tryz.underlying32 hi hz0 hz1 hz2 rfl (by decide) (.slice ao m cap) m _ rfl (hown'.alloc _) ⟨wa.heap.size, 0, none⟩ 1 1 [.int .i64 0] rfl rfl (cell_one_new _ _ _) (by simp; rfl) (by unfold maxLen; omega) (by omega) (by simp; omega) ?_; intro v' w1 hown1 hgr1 _; obtain ⟨g1, cap1, hv, hg1, hc1, hc2, hown2⟩ := own_next (x := 0) hown1; rw [hv])
          have hb1 : Below w.heap.size w w1 := (hb'.alloc hsz' _).grown hgr1 (by simp; omega) (fun k hk => (hown'.lt k hk).1)
          clear hown1 hgr1 hv hown' hb' hao
          go_loopw [8] (fun vk wq => ∃ k : Nat, a ≤ k ∧ k ≤ m ∧ vk = .int .i64 (k : Int) ∧ (∃ h, wq.ownsRow w.heap.size 3 1 (.slice (some ⟨g1, 0, none⟩) (m + 1) cap1) (m + 1) (RL h (m + 1)) ∧ Hid (∀ j, j < k → h j = f j) ∧ Hid (∀ j, k < j → j < m + 1 → h j = f (j - 1))) ∧ Below w.heap.size w wq) (fun vk _ => (intOf vk).toNat)
          case atStart => exact ⟨m, hbm, Nat.le_refl _, by go_num, ⟨_, hown2, fun j hj => upd_ne _ _ _ (by omega), fun j h1 h2 => by omega⟩, hb1⟩
          case round =>
            clear hown2 hb1
            obtain ⟨k, hak, hkm, rfl, ⟨h, ho, H3, H4⟩, hbq⟩ := hrel
            have hrow := own_row ho
            by_cases hgt : a < k
            · have hc1 := hrow.cell (show k - 1 < m + 1 by omega)
              have hc2 := hrow.cell (show k < m + 1 by omega)
              have hfz := hrow.free k
              rw [IN_at] at hc1 hc2
              go_wp2
              go_roundw
              case rel => exact ⟨k - 1, by omega, by omega, by go_num, ⟨_, own_set ho k (h (k - 1)), fun j hj => by rw [upd_ne _ _ _ (by omega)]; exact H3.out j (by omega), fun j h1 h2 => by
                  by_cases e : j = k
                  · subst e; rw [upd_at]; exact H3.out _ (by omega)
                  · rw [upd_ne _ _ _ e]; exact H4.out j (by omega) h2⟩, hbq.setCell hg1 _⟩
              case measure => simp [intOf]; omega
            · have hka : k = a := by omega
              subst hka
              have hc2 := hrow.cell (show k < m + 1 by omega)
              have hfz := hrow.free k
              rw [IN_at] at hc2
              go_wp2
              go_roundw
              case rel =>
                have ei : ((s.size : Int) - (m : Int)) = ((s.size - m : Nat) : Int) := by omega
                rw [ei]
                refine ⟨m + 1, ins f k (s.size - m), by omega, by go_num, own_congr (own_set ho k (s.size - m)) (fun j hj => ?_), ?_, hbq.setCell hg1 _⟩
                · unfold ins
                  by_cases e : j = k
                  · subst e; rw [upd_at, if_neg (by omega), if_pos rfl]
                  · rw [upd_ne _ _ _ e]
                    by_cases l : j < k
                    · rw [if_pos l]; exact H3.out j l
                    · rw [if_neg l, if_neg e]; exact H4.out j (by omega) hj
                · exact HS.out.ins (by rw [tx_length]; omega) hbm H1.out H2.out
              case measure => simp [intOf]; omega
    · have hms : m = s.size + 1 := by omega
      subst hms
      obtain ⟨g, rfl, hg, hr⟩ := hao (by omega)
      go_wp2
      go_ret
      refine ⟨f, ⟨g, cap, rfl, ?_, ?_, hg, hr, hb⟩, ?_⟩
      · rcases hown.2 with ⟨hv, h0⟩ | ⟨g', cap', cur, hv, _, _, hnc, hcm, _⟩
        · omega
        · simp at hv; omega
      · rcases hown.2 with ⟨hv, h0⟩ | ⟨g', cap', cur, hv, _, _, hnc, hcm, _⟩
        · omega
        · simp at hv; omega
      · have S := HS.out
        rw [← tx_length s] at S
        exact S.sa

end Go.Proofs.YtkebgnpifmcmaabGreat

namespace Go.Proofs.YtkebgnpifmcmaabGreat
open Go.RowKit

/-- A list of numbers: nil or not; its n cells. -/
def Lst (w : World) (v : Value) (n : Nat) (F : Nat → Value) : Prop := ∃ ao cap, v = .slice ao n cap ∧ (0 < n → ∃ g, ao = some ⟨g, 0, none⟩ ∧ Row w g 3 n F)
theorem Lst.below {w w' : World} {v : Value} {n : Nat} {F : Nat → Value} (h : Lst w v n F) (hb : Below w.heap.size w w') : Lst w' v n F := by
  obtain ⟨ao, cap, rfl, h⟩ := h
  exact ⟨ao, cap, rfl, fun hn => by obtain ⟨g, rfl, hr⟩ := h hn; exact ⟨g, rfl, hr.below hb hr.lt⟩⟩

set_option maxRecDepth 10000 in
set_option maxHeartbeats 400000 in
theorem same_true (va vb : Value) (n : Nat) (F : Nat → Int) (w : World) (hn : n ≤ 3000) (ha : Lst w va n (II F)) (hb : Lst w vb n (II F)) :
    Calls Tryz.prog 32 #[va, vb] w fun e w' => e = .returned (.bool true) ∧ ∃ m, w' = w.drewN m := by
  obtain ⟨ao, capa, rfl, ha⟩ := ha
  obtain ⟨bo, capb, rfl, hb⟩ := hb
  have hnn : ((n : Int) != (n : Int)) = false := by simp
  go_enter Tryz.func32, Tryz.ntmps32
  go_wp2
  go_loopw [5] (fun i wr => ∃ k : Nat, k ≤ n ∧ i = .int .i64 (k : Int) ∧ ∃ m, wr = w.drewN m) (fun i _ => n - (intOf i).toNat)
  case atStart => exact ⟨0, Nat.zero_le _, rfl, 0, rfl⟩
  case round =>
    obtain ⟨k, hk, rfl, m, rfl⟩ := hrel
    by_cases hlt : k < n
    · obtain ⟨ga, rfl, hra⟩ := ha (by omega)
      obtain ⟨gb, rfl, hrb⟩ := hb (by omega)
      have hca := hra.cell hlt
      have hcb := hrb.cell hlt
      rw [II_at] at hca hcb
      have hff : (F k != F k) = false := by simp
      go_wp2
      go_quiet (fail)
      go_wp2
      go_roundw
      case rel => exact ⟨k + 1, by omega, by go_num, _, rfl⟩
      case measure => simp [intOf]; omega
    · go_wp2
      go_ret
      exact ⟨rfl, _, rfl⟩

set_option maxRecDepth 10000 in
set_option maxHeartbeats 400000 in
theorem num_any (x : Int) (w : World) : Calls Tryz.prog 33 #[.int .i64 x] w fun e w' => e = .returned (.int .i64 x) ∧ w' = w := by
  go_enter Tryz.func33, Tryz.ntmps33
  go_wp2
  go_ret
  exact ⟨rfl, rfl⟩

theorem NewN.lst {w w' : World} {e : Ending} {n : Nat} {f : Nat → Nat} (h : NewN w w' e n f) : ∃ v, e = .returned v ∧ Lst w' v n (IN f) ∧ Below w.heap.size w w' := by
  obtain ⟨g, cap, rfl, _, _, _, hr, hb⟩ := h
  exact ⟨_, rfl, ⟨_, _, rfl, fun _ => ⟨g, rfl, hr⟩⟩, hb⟩

set_option maxRecDepth 10000 in
set_option maxHeartbeats 400000 in
theorem suffixes_ok (s : ByteArray) (w : World) (hn : s.size ≤ 2000) :
    Calls Tryz.prog 40 #[.string s] w fun e w' => ∃ g cap f, e = .returned (.tuple #[.slice (some ⟨g, 0, none⟩) (s.size + 1) cap, .int .i64 0]) ∧ w.heap.size ≤ g ∧ s.size + 1 ≤ cap ∧ cap ≤ maxLen ∧ Row w' g 3 (s.size + 1) (IN f) ∧ Below w.heap.size w w' ∧ IsSA (tx s) f := by
  go_enter Tryz.func40, Tryz.ntmps40
  go_wp2_with (go_at_call 65; refine (sort_any s _ hn).mono ?_; rintro e w1 ⟨f, ⟨g, cap, rfl, hc1, hc2, hg, hr, hb⟩, hsa⟩)
  go_ret2
  exact ⟨g, cap, f, rfl, hg, hc1, hc2, hr, hb, hsa⟩
set_option maxRecDepth 10000 in
set_option maxHeartbeats 400000 in
theorem suffixes_long (s : ByteArray) (w : World) (hm : s.size ≤ maxLen) (hn : 2000 < s.size) :
    Calls Tryz.prog 40 #[.string s] w fun e w' => e = .returned (.tuple #[.slice none 0 0, .int .i64 1]) ∧ w' = w := by
  unfold maxLen at hm
  go_enter Tryz.func40, Tryz.ntmps40
  go_wp2_with fail
  go_ret2
  exact ⟨rfl, rfl⟩
set_option maxRecDepth 10000 in
set_option maxHeartbeats 400000 in
theorem refSuffixes_ok (s : ByteArray) (w : World) (hn : s.size ≤ 2000) :
    Calls Tryz.prog 41 #[.string s] w fun e w' => ∃ g cap f, e = .returned (.tuple #[.slice (some ⟨g, 0, none⟩) (s.size + 1) cap, .int .i64 0]) ∧ w.heap.size ≤ g ∧ s.size + 1 ≤ cap ∧ cap ≤ maxLen ∧ Row w' g 3 (s.size + 1) (IN f) ∧ Below w.heap.size w w' ∧ IsSA (tx s) f := by
  go_enter Tryz.func41, Tryz.ntmps41
  go_wp2_with (go_at_call 66; refine (rows_any s _ hn).mono ?_; rintro e w1 ⟨f, ⟨g, cap, rfl, hc1, hc2, hg, hr, hb⟩, hsa⟩)
  go_ret2
  exact ⟨g, cap, f, rfl, hg, hc1, hc2, hr, hb, hsa⟩
set_option maxRecDepth 10000 in
set_option maxHeartbeats 400000 in
theorem refSuffixes_long (s : ByteArray) (w : World) (hm : s.size ≤ maxLen) (hn : 2000 < s.size) :
    Calls Tryz.prog 41 #[.string s] w fun e w' => e = .returned (.tuple #[.slice none 0 0, .int .i64 1]) ∧ w' = w := by
  unfold maxLen at hm
  go_enter Tryz.func41, Tryz.ntmps41
  go_wp2_with fail
  go_ret2
  exact ⟨rfl, rfl⟩

end Go.Proofs.YtkebgnpifmcmaabGreat
