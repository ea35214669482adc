import Derived.Test.YtkebgnpifmcmaaaXG
import Derived.Test.YtkebgnpifmcmaaaXFc
namespace Go.Proofs.Ytkebgnpifmcmaaa
open Go.RowKit

theorem tl_get (b : Nat → Nat) : ∀ (m q c : Nat), q < m → c < 257 → (tl b m)[q * 257 + c]? = some (.int .i64 ((less b c (64 * q) : Nat) : Int))
  | 0, q, c, h, _ => absurd h (Nat.not_lt_zero _)
  | m + 1, q, c, h, hc => by
    by_cases e : q = m
    · subst e
      rw [tl, List.getElem?_append_right (by rw [tl_length]; omega), tl_length, show q * 257 + c - q * 257 = c from by omega, Array.getElem?_toList, AN_get _ _ _ hc]; rfl
    · rw [tl, List.getElem?_append_left (by rw [tl_length]; have : (q + 1) * 257 ≤ m * 257 := Nat.mul_le_mul_right _ (by omega); omega)]
      exact tl_get b m q c (by omega) hc
def ManyC (w : World) (g : Nat) (s : ByteArray) : Prop := ∃ base v, Blk w g 145 #[.string s, v] ∧ w.ownsRow base 151 257 v (s.size / 64 + 1) (tl (byN s) (s.size / 64 + 1))
theorem ManyC.below {w w' : World} {g : Nat} {s : ByteArray} (h : ManyC w g s) (hb : Below w.heap.size w w') : ManyC w' g s := by
  obtain ⟨base, v, h1, h2⟩ := h
  exact ⟨base, v, h1.below hb h1.lt, own_below3 h2 hb⟩
theorem own_cellsN {w : World} {base n z : Nat} {e : TypeId} {v : Value} {xs : List Value} (h : w.ownsRow base e z v n xs) (hn : 0 < n) : ∃ g cap, v = .slice (some ⟨g, 0, none⟩) n cap ∧ ∀ j u, j < n * z → xs[j]? = some u → w.cell? ⟨g, j, none⟩ = some u := by
  rcases h.2 with ⟨_, h0⟩ | ⟨g, cap, cur, rfl, hbs, hg, hnc, hcm, hcs, htake⟩
  · omega
  · refine ⟨g, cap, rfl, fun j u hj hu => ?_⟩
    have h1 : cur[j]? = some u := by
      rw [← htake, List.getElem?_take, if_pos hj] at hu
      simpa using hu
    have hB : Blk w g e cur := hg
    exact (hB.cell j).trans h1

theorem many_size (w : World) (g : Nat) (s : ByteArray) (h : ManyC w g s) : Calls Try.prog 134 #[.pointer (some ⟨g, 0, none⟩)] w fun e w' => e = .returned (.int .i64 (s.size : Int)) ∧ w' = w := by
  obtain ⟨base, v, h1, h2⟩ := h
  have hc : w.cell? ⟨g, 0, none⟩ = some (.string s) := h1.cell 0
  go_enter Try.func134, Try.ntmps134
  go_wp2
  go_ret
  exact ⟨rfl, rfl⟩
theorem many_bytes (w : World) (g : Nat) (s : ByteArray) (h : ManyC w g s) : Calls Try.prog 94 #[.pointer (some ⟨g, 0, none⟩)] w fun e w' => e = .returned (.string s) ∧ w' = w := by
  obtain ⟨base, v, h1, h2⟩ := h
  have hc : w.cell? ⟨g, 0, none⟩ = some (.string s) := h1.cell 0
  go_enter Try.func94, Try.ntmps94
  go_wp2
  go_ret
  exact ⟨rfl, rfl⟩
theorem many_at (w : World) (g row : Nat) (s : ByteArray) (h : ManyC w g s) (hr : row < s.size) : Calls Try.prog 132 #[.pointer (some ⟨g, 0, none⟩), .int .i64 (row : Int)] w fun e w' => e = .returned (.int .u8 ((s[row]).toNat : Int)) ∧ w' = w := by
  obtain ⟨base, v, h1, h2⟩ := h
  have hc : w.cell? ⟨g, 0, none⟩ = some (.string s) := h1.cell 0
  go_enter Try.func132, Try.ntmps132
  go_wp2
  go_ret
  exact ⟨rfl, rfl⟩

set_option maxRecDepth 10000 in
set_option maxHeartbeats 1000000 in
theorem many_count (w : World) (g c row : Nat) (s : ByteArray) (h : ManyC w g s) (hn : s.size ≤ 2000) (hr : row ≤ s.size) (hc : c < 256) : Calls Try.prog 133 #[.pointer (some ⟨g, 0, none⟩), .int .u8 (c : Int), .int .i64 (row : Int)] w fun e w' => e = .returned (.tuple #[.int .i64 ((cnt (byN s) c row : Nat) : Int), .int .i64 ((less (byN s) c row : Nat) : Int)]) ∧ Below w.heap.size w w' := by
  obtain ⟨base, v, h1, h2⟩ := h
  obtain ⟨gt, cap, rfl, hcell⟩ := own_cellsN h2 (by omega)
  have hc0 : w.cell? ⟨g, 0, none⟩ = some (.string s) := h1.cell 0
  have hc1 : w.cell? ⟨g, 1, none⟩ = some (.slice (some ⟨gt, 0, none⟩) (s.size / 64 + 1) cap) := h1.cell 1
  have hq : row / 64 < s.size / 64 + 1 := by omega
  have hmul : (row / 64 + 1) * 257 ≤ (s.size / 64 + 1) * 257 := Nat.mul_le_mul_right _ (by omega)
  have hc2 := hcell (row / 64 * 257 + c) _ (by omega) (tl_get (byN s) _ (row / 64) c hq (by omega))
  have hc3 := hcell (row / 64 * 257 + (c + 1)) _ (by omega) (tl_get (byN s) _ (row / 64) (c + 1) hq (by omega))
  have HL : Hid (less (byN s) (c + 1) (64 * (row / 64)) = less (byN s) c (64 * (row / 64)) + cnt (byN s) c (64 * (row / 64))) := less_succ _ _ _
  have hb1 := less_le (byN s) c (64 * (row / 64))
  have hb2 := less_le (byN s) (c + 1) (64 * (row / 64))
  clear hcell h2 h1
  go_enter Try.func133, Try.ntmps133
  go_wp2_with fail
  clear hc2 hc3 hc1 hmul hq
  go_loopw [9, 6, 7, 10] (fun iv sv lv _ wr => ∃ i : Nat, i ≤ row ∧ iv = .int .i64 (i : Int) ∧ sv = .int .i64 ((cnt (byN s) c i : Nat) : Int) ∧ lv = .int .i64 ((less (byN s) c i : Nat) : Int) ∧ wr = w) (fun iv _ _ _ _ => row - (intOf iv).toNat)
  case atStart => exact ⟨64 * (row / 64), by omega, by congr 1; omega, by rw [HL.out]; congr 1; omega, rfl, rfl⟩
  case round =>
    obtain ⟨i, hi, rfl, rfl, rfl, rfl⟩ := hrel
    have hle1 := cnt_le (byN s) c i
    have hle2 := less_le (byN s) c i
    by_cases hlt : i < row
    · have his : i < s.size := by omega
      have hbi := byN_lt s i his
      rcases Nat.lt_trichotomy (s[i]).toNat c with hx | hx | hx
      · have HN : Hid (cnt (byN s) c (i + 1) = cnt (byN s) c i ∧ less (byN s) c (i + 1) = less (byN s) c i + 1) := by
          refine ⟨?_, ?_⟩
          · rw [cnt_other _ _ _ (by rw [hbi]; omega)]
          · simp only [less, hbi, if_pos hx]
        have hd1 : ((s[i]).toNat : Int) = (c : Int) → False := by omega
        clear hbi
        go_wp2
        go_roundw
        case rel => exact ⟨i + 1, by omega, by go_num, by rw [HN.out.1], by rw [HN.out.2]; go_num, trivial⟩
        case measure => simp [intOf]; omega
      · have HN : Hid (cnt (byN s) c (i + 1) = cnt (byN s) c i + 1 ∧ less (byN s) c (i + 1) = less (byN s) c i) := by
          refine ⟨?_, ?_⟩
          · simp only [cnt, hbi, if_pos hx]
          · simp only [less, hbi, if_neg (show ¬ (s[i]).toNat < c by omega)]; omega
        clear hbi
        subst hx
        go_wp2
        go_roundw
        case rel => exact ⟨i + 1, by omega, by go_num, by rw [HN.out.1]; go_num, by rw [HN.out.2], trivial⟩
        case measure => simp [intOf]; omega
      · have HN : Hid (cnt (byN s) c (i + 1) = cnt (byN s) c i ∧ less (byN s) c (i + 1) = less (byN s) c i) := by
          refine ⟨?_, ?_⟩
          · rw [cnt_other _ _ _ (by rw [hbi]; omega)]
          · simp only [less, hbi, if_neg (show ¬ (s[i]).toNat < c by omega)]; omega
        have hd1 : ((s[i]).toNat : Int) = (c : Int) → False := by omega
        have hd2 : ¬ (s[i]).toNat < c := by omega
        clear hbi
        go_wp2
        go_roundw
        case rel => exact ⟨i + 1, by omega, by go_num, by rw [HN.out.1], by rw [HN.out.2], trivial⟩
        case measure => simp [intOf]; omega
    · have hir : i = row := by omega
      subst hir
      go_wp2
      go_ret2
      exact ⟨rfl, Below.refl _ _⟩

/-- A counter, of either kind, in memory. -/
def Ctr (w : World) (v : Value) (s : ByteArray) : Prop :=
  ((letters s).length ≤ 8 ∧ ∃ g, v = .iface 133 (.pointer (some ⟨g, 0, none⟩)) ∧ FewC w g s (bs (letters s))) ∨
  (8 < (letters s).length ∧ ∃ g, v = .iface 135 (.pointer (some ⟨g, 0, none⟩)) ∧ ManyC w g s)
theorem Ctr.below {w w' : World} {v : Value} {s : ByteArray} (h : Ctr w v s) (hb : Below w.heap.size w w') : Ctr w' v s := by
  rcases h with ⟨h1, g, h2, h3⟩ | ⟨h1, g, h2, h3⟩
  · exact .inl ⟨h1, g, h2, h3.below hb⟩
  · exact .inr ⟨h1, g, h2, h3.below hb⟩

set_option maxRecDepth 10000 in
theorem ranksOf_few (s lt : ByteArray) (w : World) (hn : s.size ≤ 2000) (h8 : lt.size ≤ 8) (hL : Hid (Calls Try.prog 101 #[.string s] w fun e w' => e = .returned (.string lt) ∧ Below w.heap.size w w')) : Calls Try.prog 95 #[.string s] w fun e w' => ∃ g, e = .returned (.iface 133 (.pointer (some ⟨g, 0, none⟩))) ∧ FewC w' g s lt ∧ Below w.heap.size w w' := by
  go_enter Try.func95, Try.ntmps95
  go_wp2_with fail
  refine Calls.mono hL.out ?_
  clear hL
  rintro e w1 ⟨rfl, hb1⟩
  go_wp2_with fail
  refine (newFew_any s lt w1 hn (by omega)).mono ?_
  rintro e w2 ⟨g, v, xs, rfl, h1, h2, h3, hb2⟩
  go_wp2
  go_ret
  exact ⟨g, rfl, ⟨_, v, xs, h1, h2, h3⟩, hb1.trans (hb2.mono hb1.size)⟩
set_option maxRecDepth 10000 in
theorem ranksOf_many (s lt : ByteArray) (w : World) (hn : s.size ≤ 2000) (h8 : 8 < lt.size) (hL : Hid (Calls Try.prog 101 #[.string s] w fun e w' => e = .returned (.string lt) ∧ Below w.heap.size w w')) : Calls Try.prog 95 #[.string s] w fun e w' => ∃ g, e = .returned (.iface 135 (.pointer (some ⟨g, 0, none⟩))) ∧ ManyC w' g s ∧ Below w.heap.size w w' := by
  go_enter Try.func95, Try.ntmps95
  go_wp2_with fail
  refine Calls.mono hL.out ?_
  clear hL
  rintro e w1 ⟨rfl, hb1⟩
  go_wp2_with fail
  refine (newMany_any s w1 hn).mono ?_
  rintro e w2 ⟨g, v, rfl, h1, h2, hb2⟩
  go_wp2
  go_ret
  exact ⟨g, rfl, ⟨_, v, h1, h2⟩, hb1.trans (hb2.mono hb1.size)⟩
theorem ranksOf_any (s : ByteArray) (w : World) (hn : s.size ≤ 2000) : Calls Try.prog 95 #[.string s] w fun e w' => ∃ v, e = .returned v ∧ Ctr w' v s ∧ Below w.heap.size w w' := by
  by_cases h8 : (letters s).length ≤ 8
  · refine (ranksOf_few s (bs (letters s)) w hn (by rw [bs_size]; exact h8) (lettersOf_any s w hn)).mono ?_
    rintro e w' ⟨g, rfl, h, hb⟩
    exact ⟨_, rfl, .inl ⟨h8, g, rfl, h⟩, hb⟩
  · refine (ranksOf_many s (bs (letters s)) w hn (by rw [bs_size]; exact Nat.lt_of_not_le h8) (lettersOf_any s w hn)).mono ?_
    rintro e w' ⟨g, rfl, h, hb⟩
    exact ⟨_, rfl, .inr ⟨Nat.lt_of_not_le h8, g, rfl, h⟩, hb⟩
end Go.Proofs.Ytkebgnpifmcmaaa
