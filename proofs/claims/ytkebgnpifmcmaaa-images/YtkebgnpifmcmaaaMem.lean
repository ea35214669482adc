/- Rows of cells in memory, told by a function from places to values. -/
import Derived.Test.YtkebgnpifmcmaaaProg
import Derived.WalkKit
import Derived.WalkSpells
import Derived.WalkLawsBesides
import Derived.Deep.QuietTactic
import Derived.BigQuiet
namespace Go.Proofs.Ytkebgnpifmcmaaa
open Go.RowKit

/-- Block g holds at least n cells of type e, not frozen, and the first n of them are as F says. -/
def Row (w : World) (g : Nat) (e : TypeId) (n : Nat) (F : Nat → Value) : Prop :=
  ∃ cur : Array Value, w.heap[g]? = some (.cells cur e (0, 0)) ∧ n ≤ cur.size ∧ ∀ j, j < n → cur[j]? = some (F j)

def updV (F : Nat → Value) (j : Nat) (u : Value) : Nat → Value := fun i => if i = j then u else F i
def upd {α : Type} (f : Nat → α) (j : Nat) (x : α) : Nat → α := fun i => if i = j then x else f i
theorem upd_at {α : Type} (f : Nat → α) (j : Nat) (x : α) : upd f j x j = x := by simp [upd]
theorem upd_ne {α : Type} (f : Nat → α) (j : Nat) (x : α) {i : Nat} (h : i ≠ j) : upd f j x i = f i := by simp [upd, h]

theorem upd_next {α : Type} {f φ : Nat → α} {k : Nat} {x : α} (h : ∀ j, j < k → f j = φ j) (hx : x = φ k) : ∀ j, j < k + 1 → upd f k x j = φ j := by
  intro j hj
  by_cases e : j = k
  · subst e; rw [upd_at, hx]
  · rw [upd_ne _ _ _ e]; exact h j (by omega)

theorem Row.lt {w : World} {g : Nat} {e : TypeId} {n : Nat} {F : Nat → Value} (h : Row w g e n F) : g < w.heap.size := by
  obtain ⟨cur, hg, _⟩ := h
  exact (Array.getElem?_eq_some_iff.1 hg).1
theorem Row.cell {w : World} {g : Nat} {e : TypeId} {n : Nat} {F : Nat → Value} (h : Row w g e n F) {j : Nat} (hj : j < n) : w.cell? ⟨g, j, none⟩ = some (F j) := by
  obtain ⟨cur, hg, _, hc⟩ := h
  simp [World.cell?, hg, hc j hj]
theorem Row.free {w : World} {g : Nat} {e : TypeId} {n : Nat} {F : Nat → Value} (h : Row w g e n F) (j : Nat) : w.frozen? ⟨g, j, none⟩ = false := by
  obtain ⟨cur, hg, _, hc⟩ := h
  simp [World.frozen?, hg]
theorem Row.congr {w : World} {g : Nat} {e : TypeId} {n : Nat} {F G : Nat → Value} (h : Row w g e n F) (hFG : ∀ j, j < n → F j = G j) : Row w g e n G := by
  obtain ⟨cur, hg, hn, hc⟩ := h
  exact ⟨cur, hg, hn, fun j hj => by rw [hc j hj, hFG j hj]⟩
theorem Row.block {w w' : World} {g : Nat} {e : TypeId} {n : Nat} {F : Nat → Value} (h : Row w g e n F) (hb : w'.heap[g]? = w.heap[g]?) : Row w' g e n F := by
  obtain ⟨cur, hg, hn, hc⟩ := h
  exact ⟨cur, hb.trans hg, hn, hc⟩
theorem Row.below {w w' : World} {B g : Nat} {e : TypeId} {n : Nat} {F : Nat → Value} (h : Row w g e n F) (hb : Below B w w') (hlt : g < B) : Row w' g e n F := h.block (hb.block g hlt)
theorem Row.drew {w : World} {g : Nat} {e : TypeId} {n : Nat} {F : Nat → Value} (h : Row w g e n F) : Row w.drew g e n F := h
theorem Row.alloc {w : World} {g : Nat} {e : TypeId} {n : Nat} {F : Nat → Value} (h : Row w g e n F) (o : Obj) : Row (w.alloc o) g e n F := h.block (Below.heap_alloc w o g h.lt)
theorem Row.grown {w w' : World} {row : Option Nat} {g : Nat} {e : TypeId} {n : Nat} {F : Nat → Value} (h : Row w g e n F) (hg : w.grownBy w' row) (hne : some g ≠ row) : Row w' g e n F := h.block (hg.block g h.lt hne)
theorem Row.set {w : World} {g : Nat} {e : TypeId} {n : Nat} {F : Nat → Value} (h : Row w g e n F) (j : Nat) (u : Value) : Row (w.setCell ⟨g, j, none⟩ u) g e n (updV F j u) := by
  obtain ⟨cur, hg, hn, hc⟩ := h
  refine ⟨cur.setIfInBounds j u, heap_setCell_same w g j cur e u hg, by simpa using hn, fun i hi => ?_⟩
  rw [Array.getElem?_setIfInBounds]
  by_cases e : j = i
  · subst e; simp [updV]; omega
  · rw [if_neg e, hc i hi]; simp [updV]; intro h; exact absurd h.symm e
theorem Row.setOther {w : World} {g : Nat} {e : TypeId} {n : Nat} {F : Nat → Value} (h : Row w g e n F) {a : Addr} (ha : g ≠ a.block) (u : Value) : Row (w.setCell a u) g e n F :=
  h.block (Below.heap_setCell w a u g ha)

/-- Integers. -/
def II (f : Nat → Int) : Nat → Value := fun j => .int .i64 (f j)
/-- Natural numbers, as integers. -/
def IN (f : Nat → Nat) : Nat → Value := fun j => .int .i64 (f j : Int)
/-- Bytes. -/
def IB (f : Nat → UInt8) : Nat → Value := fun j => .int .u8 ((f j).toNat : Int)
theorem IN_at (f : Nat → Nat) (j : Nat) : IN f j = .int .i64 (f j : Int) := rfl
theorem II_at (f : Nat → Int) (j : Nat) : II f j = .int .i64 (f j) := rfl
theorem IB_at (f : Nat → UInt8) (j : Nat) : IB f j = .int .u8 ((f j).toNat : Int) := rfl
theorem updV_IN (f : Nat → Nat) (j x : Nat) : updV (IN f) j (.int .i64 (x : Int)) = IN (upd f j x) := by
  funext i; simp only [updV, IN, upd]; split <;> rfl
theorem updV_II (f : Nat → Int) (j : Nat) (x : Int) : updV (II f) j (.int .i64 x) = II (upd f j x) := by
  funext i; simp only [updV, II, upd]; split <;> rfl
theorem updV_IB (f : Nat → UInt8) (j : Nat) (x : UInt8) : updV (IB f) j (.int .u8 (x.toNat : Int)) = IB (upd f j x) := by
  funext i; simp only [updV, IB, upd]; split <;> rfl
theorem Row.setN {w : World} {g : Nat} {e : TypeId} {n : Nat} {f : Nat → Nat} (h : Row w g e n (IN f)) (j x : Nat) : Row (w.setCell ⟨g, j, none⟩ (.int .i64 (x : Int))) g e n (IN (upd f j x)) := by
  rw [← updV_IN]; exact h.set j _
theorem Row.setI {w : World} {g : Nat} {e : TypeId} {n : Nat} {f : Nat → Int} (h : Row w g e n (II f)) (j : Nat) (x : Int) : Row (w.setCell ⟨g, j, none⟩ (.int .i64 x)) g e n (II (upd f j x)) := by
  rw [← updV_II]; exact h.set j _

/-- What 'make([]T, n)' leaves. -/
theorem Row.made {w : World} {base g n : Nat} {e : TypeId} {z : Value} (h : w.ownsRow base e 1 (.slice (some ⟨g, 0, none⟩) n n) n (madeCells #[z] (n * 1)).toList) : Row w g e n (fun _ => z) := by
  rcases h.2 with ⟨h', _⟩ | ⟨g', cap', cur, h', hb, hg, hnc, hcm, hcs, htake⟩
  · simp at h'
  · simp only [Value.slice.injEq, Option.some.injEq, Addr.mk.injEq, and_true, true_and] at h'
    obtain ⟨rfl, rfl⟩ := h'
    refine ⟨cur, hg, by omega, fun j hj => ?_⟩
    have e1 : (cur.toList.take (n * 1))[j]? = some z := by rw [htake, toList_madeCells_one, List.getElem?_replicate, if_pos (by omega)]
    rw [List.getElem?_take, if_pos (by omega)] at e1
    simpa using e1
/-- From a row that is owned. -/
theorem Row.owned {w : World} {base g n cap : Nat} {e : TypeId} {xs : List Value} {F : Nat → Value} (h : w.ownsRow base e 1 (.slice (some ⟨g, 0, none⟩) n cap) n xs) (hF : ∀ j, j < n → xs[j]? = some (F j)) : Row w g e n F := by
  rcases h.2 with ⟨h', _⟩ | ⟨g', cap', cur, h', hb, hg, hnc, hcm, hcs, htake⟩
  · simp at h'
  · simp only [Value.slice.injEq, Option.some.injEq, Addr.mk.injEq, and_true, true_and] at h'
    obtain ⟨rfl, rfl⟩ := h'
    refine ⟨cur, hg, by omega, fun j hj => ?_⟩
    have e1 : (cur.toList.take (n * 1))[j]? = some (F j) := by rw [htake, hF j hj]
    rw [List.getElem?_take, if_pos (by omega)] at e1
    simpa using e1

theorem Try.info3 : (Try.prog.info? 3).map (fun i => (i.zero, i.size, i.bytes)) = some (some (.int .i64 0), 1, 8) := by kernel_rfl
theorem Try.info5 : (Try.prog.info? 5).map (fun i => (i.zero, i.size, i.bytes)) = some (some (.int .u8 0), 1, 1) := by kernel_rfl

/-- A new list of natural numbers: what a call that makes one leaves. -/
def NewN (w w' : World) (e : Ending) (n : Nat) (f : Nat → Nat) : Prop :=
  ∃ g cap, e = .returned (.slice (some ⟨g, 0, none⟩) n cap) ∧ n ≤ cap ∧ cap ≤ maxLen ∧ w.heap.size ≤ g ∧ Row w' g 3 n (IN f) ∧ Below w.heap.size w w'

end Go.Proofs.Ytkebgnpifmcmaaa
