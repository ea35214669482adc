import Derived.Test.YtkebgnpifmcmaaaXN
import Derived.ArgAppend
namespace Go.Proofs.Ytkebgnpifmcmaaa
open Go.RowKit

/-- Bytes that the call owns, in whatever block. -/
def OwnG (w : World) (base : Nat) (v : Value) (l : List UInt8) : Prop :=
  ∃ g cap, v = .slice (some ⟨g, 0, none⟩) l.length cap ∧ base ≤ g ∧ g < w.heap.size ∧ l.length ≤ cap ∧ (∀ j u, (BL l)[j]? = some u → w.cell? ⟨g, j, none⟩ = some u) ∧ ∀ j, j < cap → (w.cell? ⟨g, j, none⟩).isSome = true ∧ w.frozen? ⟨g, j, none⟩ = false
theorem OwnG.below {w w' : World} {base : Nat} {v : Value} {l : List UInt8} (h : OwnG w base v l) (hb : Below w.heap.size w w') : OwnG w' base v l := by
  obtain ⟨g, cap, h1, h2, h3, h4, h5, h6⟩ := h
  have hc : ∀ j, w'.cell? ⟨g, j, none⟩ = w.cell? ⟨g, j, none⟩ := fun j => by simp only [World.cell?, hb.block g h3]
  have hf : ∀ j, w'.frozen? ⟨g, j, none⟩ = w.frozen? ⟨g, j, none⟩ := fun j => by simp only [World.frozen?, hb.block g h3]
  exact ⟨g, cap, h1, h2, Nat.lt_of_lt_of_le h3 hb.size, h4, fun j u hu => by rw [hc]; exact h5 j u hu, fun j hj => by rw [hc, hf]; exact h6 j hj⟩
theorem OwnG.of {w : World} {base : Nat} {v : Value} {l : List UInt8} (h : w.ownsRow base 5 1 v l.length (BL l)) (hl : 0 < l.length) : OwnG w base v l := by
  rcases h.2 with ⟨_, h0⟩ | ⟨g, cap, cur, rfl, hbs, hg, hnc, hcm, hcs, htake⟩
  · omega
  · have hB : Blk w g 5 cur := hg
    refine ⟨g, cap, rfl, hbs, hB.lt, hnc, fun j u hu => ?_, fun j hj => ?_⟩
    · rw [← htake, List.getElem?_take] at hu
      rw [hB.cell j]
      by_cases hj : j < l.length * 1
      · rw [if_pos hj] at hu; simpa using hu
      · rw [if_neg hj] at hu; cases hu
    · rw [hB.cell j, hB.free j, Array.getElem?_eq_getElem (by omega)]
      exact ⟨rfl, rfl⟩

theorem below_setCellsG {B g : Nat} {a : World} (hg : B ≤ g) : ∀ (vs : List Value) (o : Nat) (w : World), Below B a w → Below B a (w.setCells g o vs)
  | [], _, _, h => h
  | v :: r, o, w, h => below_setCellsG hg r (o + 1) (w.setCell ⟨g, o, none⟩ v) (h.setCell hg v)
theorem size_setCellsG (g : Nat) : ∀ (vs : List Value) (o : Nat) (w : World), (w.setCells g o vs).heap.size = w.heap.size
  | [], _, _ => rfl
  | v :: r, o, w => by rw [World.setCells, size_setCellsG g r]; simp
/-- Written behind. -/
theorem OwnG.write {w : World} {base g cap : Nat} {l m : List UInt8} (h2 : base ≤ g) (h3 : g < w.heap.size) (hr : l.length + m.length ≤ cap) (h5 : ∀ j u, (BL l)[j]? = some u → w.cell? ⟨g, j, none⟩ = some u) (h6 : ∀ j, j < cap → (w.cell? ⟨g, j, none⟩).isSome = true ∧ w.frozen? ⟨g, j, none⟩ = false) :
    OwnG (w.setCells g l.length (BL m)) base (.slice (some ⟨g, 0, none⟩) (l.length + m.length) cap) (l ++ m) := by
  have hml := BL_length m
  have hin := World.cell?_setCells_in g (BL m) l.length w (fun j hj => (h6 _ (by omega)).1)
  have hout : ∀ j, j < l.length ∨ l.length + m.length ≤ j → (w.setCells g l.length (BL m)).cell? ⟨g, j, none⟩ = w.cell? ⟨g, j, none⟩ := fun j hj => World.cell?_setCells_out g (BL m) l.length w ⟨g, j, none⟩ (fun _ _ => by rw [hml]; exact hj)
  refine ⟨g, cap, by rw [List.length_append], h2, by rw [size_setCellsG]; exact h3, by rw [List.length_append]; exact hr, fun j u hu => ?_, fun j hj => ?_⟩
  · by_cases hj : j < l.length
    · rw [hout j (.inl hj)]
      refine h5 j u ?_
      rw [← BL_append, List.getElem?_append_left (by rw [BL_length]; exact hj)] at hu
      exact hu
    · rw [← BL_append, List.getElem?_append_right (by rw [BL_length]; omega), BL_length] at hu
      have hjm : j - l.length < (BL m).length := (List.getElem?_eq_some_iff.1 hu).1
      have := hin (j - l.length) hjm
      rw [show l.length + (j - l.length) = j from by omega] at this
      rw [this]
      rw [List.getElem?_eq_getElem hjm] at hu
      exact hu
  · rw [World.frozen?_setCells]
    refine ⟨?_, (h6 j hj).2⟩
    by_cases hj2 : j < l.length ∨ l.length + m.length ≤ j
    · rw [hout j hj2]; exact (h6 j hj).1
    · have := hin (j - l.length) (by omega)
      rw [show l.length + (j - l.length) = j from by omega] at this
      rw [this]; rfl

set_option maxRecDepth 10000 in
set_option maxHeartbeats 400000 in
theorem appendNumber_G (base : Nat) (v : Value) (l : List UInt8) (n : Nat) (w : World) (hown : OwnG w base v l) (hl : l.length ≤ 100000) (hn : n ≤ 60000) (hbase : base ≤ w.heap.size) :
    Calls Try.prog 59 #[v, .int .i64 (n : Int)] w fun e w' => ∃ v', e = .returned v' ∧ OwnG w' base v' (l ++ num2 n) ∧ Below base w w' := by
  obtain ⟨i0, hi, hz0, hz1, hz2⟩ := info_parts Try.info5
  obtain ⟨g, cap, rfl, h2, h3, h4, h5, h6⟩ := hown
  have h5' : ∀ j u, (BL l)[j]? = some u → (w.alloc (.cells #[.int .u8 ((n : Int) / 256), .int .u8 ((n : Int) % 256)] 5)).cell? ⟨g, 0 + j, none⟩ = some u := fun j u hu => by
    rw [Nat.zero_add]; exact cell_below (h5 j u hu) ((Below.refl _ _).alloc (Nat.le_refl _) _)
  have hcA : ∀ j, (w.alloc (.cells #[.int .u8 ((n : Int) / 256), .int .u8 ((n : Int) % 256)] 5)).cell? ⟨g, j, none⟩ = w.cell? ⟨g, j, none⟩ := fun j => by
    simp only [World.cell?, Below.heap_alloc w _ g h3]
  have hfA : ∀ j, (w.alloc (.cells #[.int .u8 ((n : Int) / 256), .int .u8 ((n : Int) % 256)] 5)).frozen? ⟨g, j, none⟩ = w.frozen? ⟨g, j, none⟩ := fun j => by
    simp only [World.frozen?, Below.heap_alloc w _ g h3]
  have h6' : l.length + 2 ≤ cap → ∀ j, j < [Value.int .u8 ((n : Int) / 256), .int .u8 ((n : Int) % 256)].length → ((w.alloc (.cells #[.int .u8 ((n : Int) / 256), .int .u8 ((n : Int) % 256)] 5)).cell? ⟨g, 0 + l.length * 1 + j, none⟩).isSome = true ∧ (w.alloc (.cells #[.int .u8 ((n : Int) / 256), .int .u8 ((n : Int) % 256)] 5)).frozen? ⟨g, 0 + l.length * 1 + j, none⟩ = false := fun hc j hj => by
    simp only [List.length_cons, List.length_nil] at hj
    rw [hcA, hfA]; exact h6 _ (by omega)
  have HB := BL_num2 n hn
  have HBL : Hid _ := HB
  clear HB
  by_cases hroom : l.length + 2 ≤ cap
  · go_enter Try.func59, Try.ntmps59
    go_wp2_with (at_builtin; refine wpList_append_arg _ rfl (.tmp 5) (.tmp 11) 60 rfl 5 i0 (.int .u8 0) 1 1 Try.underlying60 hi hz0 hz1 hz2 rfl (by decide) g 0 l.length cap (BL l) rfl (by simp [BL]) h5' ⟨w.heap.size, 0, none⟩ 2 2 [.int .u8 ((n : Int) / 256), .int .u8 ((n : Int) % 256)] rfl rfl (cell_arr_new w 5 #[.int .u8 ((n : Int) / 256), .int .u8 ((n : Int) % 256)]) (fun u hu => by simp at hu; rcases hu with rfl | rfl <;> rfl) h6' (by unfold maxLen; omega) (by omega) (fun _ => ?_) (fun h => absurd hroom (by omega)))
    go_ret
    have hw := OwnG.write (base := base) (w := w.alloc (.cells #[.int .u8 ((n : Int) / 256), .int .u8 ((n : Int) % 256)] 5)) (l := l) (m := num2 n) h2 (by simp; omega) (by rw [num2_length]; exact hroom) (fun j u hu => by have := h5' j u hu; rwa [Nat.zero_add] at this) (fun j hj => by rw [hcA, hfA]; exact h6 j hj)
    rw [← HBL.out] at hw
    exact ⟨_, rfl, hw, below_setCellsG h2 _ _ _ ((Below.refl _ _).alloc hbase _)⟩
  · go_enter Try.func59, Try.ntmps59
    go_wp2_with (at_builtin; refine wpList_append_arg _ rfl (.tmp 5) (.tmp 11) 60 rfl 5 i0 (.int .u8 0) 1 1 Try.underlying60 hi hz0 hz1 hz2 rfl (by decide) g 0 l.length cap (BL l) rfl (by simp [BL]) h5' ⟨w.heap.size, 0, none⟩ 2 2 [.int .u8 ((n : Int) / 256), .int .u8 ((n : Int) % 256)] rfl rfl (cell_arr_new w 5 #[.int .u8 ((n : Int) / 256), .int .u8 ((n : Int) % 256)]) (fun u hu => by simp at hu; rcases hu with rfl | rfl <;> rfl) h6' (by unfold maxLen; omega) (by omega) (fun h => absurd h hroom) ?_; intro _ v' w1 hown1 hgr1)
    go_ret
    rw [HBL.out, BL_append] at hown1
    exact ⟨v', rfl, OwnG.of (own_base (by rw [List.length_append, num2_length]; exact hown1) (by simp; omega)) (by rw [List.length_append, num2_length]; omega), ((Below.refl _ _).alloc hbase _).grown hgr1 (by simp; omega) (fun _ h => by cases h)⟩
end Go.Proofs.Ytkebgnpifmcmaaa
