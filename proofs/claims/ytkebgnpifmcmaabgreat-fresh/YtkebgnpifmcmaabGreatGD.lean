import Derived.Test.YtkebgnpifmcmaabGreatGC
import Derived.Great.BuildSlice
namespace Go.Proofs.YtkebgnpifmcmaabGreat
open Go.RowKit

/-! What the letters tell. -/
theorem lets_split (F : Nat → Bool) (c d : Nat) : ∃ r, lets F (c + d) = lets F c ++ r ∧ ∀ x ∈ r, ∃ y, c ≤ y ∧ y < c + d ∧ x = UInt8.ofNat y := by
  induction d with
  | zero => exact ⟨[], by simp, fun x hx => by cases hx⟩
  | succ d ih =>
    obtain ⟨r, hr, hx⟩ := ih
    refine ⟨r ++ (if F (c + d) then [UInt8.ofNat (c + d)] else []), by rw [← Nat.add_assoc, lets, hr, List.append_assoc], fun x hm => ?_⟩
    rcases List.mem_append.1 hm with h | h
    · obtain ⟨y, h1, h2, h3⟩ := hx x h
      exact ⟨y, h1, by omega, h3⟩
    · cases hF : F (c + d)
      · rw [hF] at h; simp at h
      · rw [hF] at h
        simp only [if_true, List.mem_singleton] at h
        exact ⟨c + d, by omega, by omega, h⟩
theorem lets_mem (F : Nat → Bool) (c : Nat) : ∀ x ∈ lets F c, ∃ y, y < c ∧ x = UInt8.ofNat y := by
  obtain ⟨r, hr, hx⟩ := lets_split F 0 c
  rw [Nat.zero_add] at hr hx
  intro x hm
  rw [hr] at hm
  simp [lets] at hm
  obtain ⟨y, _, h2, h3⟩ := hx x hm
  exact ⟨y, h2, h3⟩
theorem ofNat_toNat {y : Nat} (h : y < 256) : (UInt8.ofNat y).toNat = y := by simp [UInt8.toNat_ofNat']; omega
theorem lets_take (F : Nat → Bool) (c k : Nat) (hc : c ≤ 256) (hk : k ≤ (lets F 256).length) (h1 : ∀ j, j < k → ((lets F 256).getD j 0).toNat < c) (h2 : k < (lets F 256).length → c ≤ ((lets F 256).getD k 0).toNat) : (lets F c).length = k ∧ lets F 256 = lets F c ++ (lets F 256).drop k := by
  obtain ⟨r, hr, hx⟩ := lets_split F c (256 - c)
  rw [show c + (256 - c) = 256 from by omega] at hr hx
  have hlen : (lets F c).length = k := by
    rcases Nat.lt_trichotomy (lets F c).length k with h | h | h
    · have h3 := h1 _ h
      rw [hr, List.getD_eq_getElem?_getD, List.getElem?_append_right (Nat.le_refl _), Nat.sub_self] at h3
      have hr0 : 0 < r.length := by
        rw [hr, List.length_append] at hk; omega
      rw [List.getElem?_eq_getElem hr0, Option.getD_some] at h3
      obtain ⟨y, h4, h5, h6⟩ := hx _ (List.getElem_mem hr0)
      rw [h6, ofNat_toNat (by omega)] at h3
      omega
    · exact h
    · have hk2 : k < (lets F 256).length := by rw [hr, List.length_append]; omega
      have h3 := h2 hk2
      rw [hr, List.getD_eq_getElem?_getD, List.getElem?_append_left h, List.getElem?_eq_getElem h, Option.getD_some] at h3
      obtain ⟨y, h4, h5⟩ := lets_mem F c _ (List.getElem_mem h)
      rw [h5, ofNat_toNat (by omega)] at h3
      omega
  refine ⟨hlen, ?_⟩
  rw [hr, ← hlen, List.drop_left]
/-- How often the letters of a list stand ahead of a row. -/
def sumL (b : Nat → Nat) (row : Nat) : List UInt8 → Nat
  | [] => 0
  | x :: l => cnt b x.toNat row + sumL b row l
theorem sumL_append (b : Nat → Nat) (row : Nat) (l m : List UInt8) : sumL b row (l ++ m) = sumL b row l + sumL b row m := by
  induction l with
  | nil => simp [sumL]
  | cons x l ih => simp only [List.cons_append, sumL, ih]; omega
theorem occ_cnt {s : ByteArray} {c row : Nat} (h : occ s s.size c = false) (hr : row ≤ s.size) : cnt (byN s) c row = 0 := by
  have := cnt_mono (byN s) c hr
  simp [occ] at h
  omega
theorem sumL_lets (s : ByteArray) (row c : Nat) (hr : row ≤ s.size) (hc : c ≤ 256) : sumL (byN s) row (lets (occ s s.size) c) = less (byN s) c row := by
  induction c with
  | zero => rw [less_zero]; rfl
  | succ c ih =>
    rw [lets, sumL_append, ih (by omega), less_succ]
    cases ho : occ s s.size c
    · rw [occ_cnt ho hr]; simp [sumL]
    · simp only [if_true, sumL, ofNat_toNat (show c < 256 by omega)]; omega
/-- Where a byte that occurs stands among the letters. -/
theorem letters_has (s : ByteArray) (i : Nat) (hi : i < s.size) : ∃ k, k < (letters s).length ∧ (letters s).getD k 0 = s[i] := by
  have hlt := (s[i]).toNat_lt
  have ho : occ s s.size (s[i]).toNat = true := by
    have := cnt_lt (byN s) s.size i hi
    rw [byN_lt s i hi] at this
    simp [occ]; omega
  obtain ⟨r, hr, hx⟩ := lets_split (occ s s.size) ((s[i]).toNat + 1) (256 - ((s[i]).toNat + 1))
  have e1 : lets (occ s s.size) ((s[i]).toNat + 1) = lets (occ s s.size) (s[i]).toNat ++ [s[i]] := by
    simp only [lets, ho, if_true, UInt8.ofNat_toNat]
  rw [show (s[i]).toNat + 1 + (256 - ((s[i]).toNat + 1)) = 256 from by omega, e1] at hr
  refine ⟨(lets (occ s s.size) (s[i]).toNat).length, ?_, ?_⟩
  · unfold letters; rw [hr]; simp only [List.length_append, List.length_cons, List.length_nil]; omega
  · unfold letters; rw [hr]; simp [List.getD_eq_getElem?_getD]
/-- The ones of a letter's row. -/
theorem cnt_isLet (s lt : ByteArray) (k row : Nat) (hr : row ≤ s.size) (hk : k < lt.size) : cntB (isLet s lt k) row = cnt (byN s) (lt[k]).toNat row := by
  induction row with
  | zero => rfl
  | succ row ih =>
    rw [cntB, ih (by omega), cnt_succ, isLet_at s lt k row (by omega) hk, byN_lt s row (by omega)]
    by_cases e : s[row] = lt[k]
    · rw [decide_eq_true e, if_pos (by rw [e])]; rfl
    · rw [decide_eq_false e, if_neg (fun h => e (UInt8.toNat_inj.1 h))]; rfl

/-- The counter of few bytes, in memory. -/
def FewC (w : World) (g : Nat) (s lt : ByteArray) : Prop := ∃ base v xs, Blk w g 196 #[.int .i64 (s.size : Int), .string lt, v] ∧ w.ownsRow base 70 3 v lt.size xs ∧ BRs w s lt lt.size xs
theorem FewC.below {w w' : World} {g : Nat} {s lt : ByteArray} (h : FewC w g s lt) (hb : Below w.heap.size w w') : FewC w' g s lt := by
  obtain ⟨base, v, xs, h1, h2, h3⟩ := h
  exact ⟨base, v, xs, h1.below hb h1.lt, own_below3 h2 hb, h3.below hb⟩
theorem own_cells3 {w : World} {base n : Nat} {e : TypeId} {v : Value} {xs : List Value} (h : w.ownsRow base e 3 v n xs) (hn : 0 < n) : ∃ g cap, v = .slice (some ⟨g, 0, none⟩) n cap ∧ g < w.heap.size ∧ ∀ j u, j < 3 * n → xs[j]? = some u → ∀ o, (w.alloc o).cell? ⟨g, j, none⟩ = some u ∧ w.cell? ⟨g, j, none⟩ = some u := by
  rcases h.2 with ⟨_, h0⟩ | ⟨g, cap, cur, rfl, hbs, hg, hnc, hcm, hcs, htake⟩
  · omega
  · refine ⟨g, cap, rfl, (Array.getElem?_eq_some_iff.1 hg).1, fun j u hj hu o => ?_⟩
    have h1 : cur[j]? = some u := by
      rw [← htake, List.getElem?_take, if_pos (by omega)] at hu
      simpa using hu
    have hB : Blk w g e cur := hg
    exact ⟨((hB.alloc o).cell j).trans h1, (hB.cell j).trans h1⟩

theorem few_size (w : World) (g : Nat) (s lt : ByteArray) (h : FewC w g s lt) : Calls Tryz.prog 180 #[.pointer (some ⟨g, 0, none⟩)] w fun e w' => e = .returned (.int .i64 (s.size : Int)) ∧ w' = w := by
  obtain ⟨base, v, xs, h1, h2, h3⟩ := h
  have hc : w.cell? ⟨g, 0, none⟩ = some (.int .i64 (s.size : Int)) := h1.cell 0
  go_enter Tryz.func180, Tryz.ntmps180
  go_wp2
  go_ret
  exact ⟨rfl, rfl⟩
theorem few_letters (w : World) (g : Nat) (s lt : ByteArray) (h : FewC w g s lt) : Calls Tryz.prog 137 #[.pointer (some ⟨g, 0, none⟩)] w fun e w' => e = .returned (.string lt) ∧ w' = w := by
  obtain ⟨base, v, xs, h1, h2, h3⟩ := h
  have hc : w.cell? ⟨g, 1, none⟩ = some (.string lt) := h1.cell 1
  go_enter Tryz.func137, Tryz.ntmps137
  go_wp2
  go_ret
  exact ⟨rfl, rfl⟩

set_option maxRecDepth 10000 in
set_option maxHeartbeats 400000 in
theorem few_rowOf (w : World) (g k : Nat) (s lt : ByteArray) (h : FewC w g s lt) (hk : k < lt.size) (hl : lt.size ≤ 300) : Calls Tryz.prog 138 #[.pointer (some ⟨g, 0, none⟩), .int .i64 (k : Int)] w fun e w' => ∃ a b c, e = .returned (.agg #[a, b, c]) ∧ BR w' a b c s.size (isLet s lt k) ∧ Below w.heap.size w w' := by
  obtain ⟨base, v, xs, h1, h2, h3⟩ := h
  obtain ⟨gr, cap, rfl, hlt, hcell⟩ := own_cells3 h2 (by omega)
  obtain ⟨a, b, c, r1, r2, r3, r4⟩ := h3 k hk
  have c0 := fun o => (hcell _ _ (by omega) r1 o).1
  have c1 := fun o => (hcell _ _ (by omega) r2 o).1
  have c2 := fun o => (hcell _ _ (by omega) r3 o).1
  rw [Nat.mul_comm 3 k] at c0 c1 c2
  have hk0 := Blk.new w 70 #[.int .i64 0, .slice none 0 0, .slice none 0 0]
  have hc : ∀ o, (w.alloc o).cell? ⟨g, 2, none⟩ = some (.slice (some ⟨gr, 0, none⟩) lt.size cap) := fun o => (h1.alloc o).cell 2
  obtain ⟨gw, ga, W, rfl, rfl, rfl, r5⟩ := id r4
  go_enter Tryz.func138, Tryz.ntmps138
  go_wp2
  have hb0 := (Below.refl w.heap.size w).alloc (Nat.le_refl _) (.cells #[.int .i64 (s.size : Int), .slice (some ⟨gw, 0, none⟩) (s.size / 64 + 1) (s.size / 64 + 1), .slice (some ⟨ga, 0, none⟩) (s.size / 64 + 1) (s.size / 64 + 1)] 70)
  exact bodyPost_ret (v := .agg #[.int .i64 (s.size : Int), .slice (some ⟨gw, 0, none⟩) (s.size / 64 + 1) (s.size / 64 + 1), .slice (some ⟨ga, 0, none⟩) (s.size / 64 + 1) (s.size / 64 + 1)]) (results_cell_row (P := Tryz.prog) rfl _ _ w.heap.size 70 _ (0, 0) _ rfl (Blk.new w _ _) Tryz.underlying70 rfl infoBR) rfl ⟨_, _, _, rfl, r4.below hb0, hb0⟩

theorem bs_letters (s : ByteArray) (k : Nat) (h : k < (bs (letters s)).size) : (bs (letters s))[k] = (letters s).getD k 0 := by
  rw [← tx_getD _ _ h, tx_bs]
theorem letters_le (s : ByteArray) : (letters s).length ≤ 256 := lets_le _ _
/-- Only one letter has its bit at a row. -/
theorem letters_last (s : ByteArray) (row : Nat) (hr : row < s.size) (h : ∀ j, j + 1 < (letters s).length → isLet s (bs (letters s)) j row = false) : 0 < (letters s).length ∧ (letters s).getD ((letters s).length - 1) 0 = s[row] := by
  obtain ⟨k, hk, he⟩ := letters_has s row hr
  refine ⟨by omega, ?_⟩
  by_cases e : k + 1 = (letters s).length
  · rw [← e, Nat.add_sub_cancel]; exact he
  · have h1 := h k (by omega)
    have hk2 : k < (bs (letters s)).size := by rw [bs_size]; exact hk
    rw [isLet_at s _ k row hr hk2, bs_letters s k hk2, he] at h1
    simp at h1

set_option maxRecDepth 10000 in
set_option maxHeartbeats 1000000 in
theorem few_at (w : World) (g row : Nat) (s : ByteArray) (h : FewC w g s (bs (letters s))) (hn : s.size ≤ 2000) (hr : row < s.size) : Calls Tryz.prog 178 #[.pointer (some ⟨g, 0, none⟩), .int .i64 (row : Int)] w fun e w' => e = .returned (.int .u8 ((s[row]).toNat : Int)) ∧ Below w.heap.size w w' := by
  obtain ⟨base, v, xs, h1, h2, h3⟩ := h
  have hlen := letters_le s
  have hpos : 0 < (letters s).length := by
    obtain ⟨k, hk, _⟩ := letters_has s row hr
    omega
  have hlast := letters_last s row hr
  have hsz := bs_size (letters s)
  have HG : ∀ k (h : k < (bs (letters s)).size), (bs (letters s))[k] = (letters s).getD k 0 := bs_letters s
  have HLast : Hid _ := hlast
  clear hlast
  obtain ⟨lt, hlt⟩ : ∃ lt, lt = bs (letters s) := ⟨_, rfl⟩
  rw [← hlt] at h1 h2 h3 hsz HG HLast
  have hl1 : lt.size ≤ 256 := by omega
  have hl0 : 0 < lt.size := by omega
  rw [← hsz] at HLast
  have HGe : Hid _ := HG
  clear HG hsz hlt hlen hpos
  obtain ⟨gr, cap, rfl, hltg, hcell⟩ := own_cells3 h2 hl0
  have hc2 : w.cell? ⟨g, 2, none⟩ = some (.slice (some ⟨gr, 0, none⟩) lt.size cap) := h1.cell 2
  go_enter Tryz.func178, Tryz.ntmps178
  go_wp2_with fail
  clear hc2
  go_loopw [14, 6] (fun iv _ wr => ∃ k : Nat, k + 1 ≤ lt.size ∧ iv = .int .i64 (k : Int) ∧ Hid (∀ j, j < k → isLet s lt j row = false) ∧ Below w.heap.size w wr) (fun iv _ _ => lt.size - (intOf iv).toNat)
  case atStart => exact ⟨0, by omega, rfl, fun j hj => by omega, Below.refl _ _⟩
  case round =>
    obtain ⟨k, hk, rfl, HN, hb⟩ := hrel
    have h1r := h1.below hb h1.lt
    have hc1 : wr.cell? ⟨g, 1, none⟩ = some (.string lt) := h1r.cell 1
    have hc2 : wr.cell? ⟨g, 2, none⟩ = some (.slice (some ⟨gr, 0, none⟩) lt.size cap) := h1r.cell 2
    by_cases hlt2 : k + 1 < lt.size
    · obtain ⟨a, b, c, r1, r2, r3, r4⟩ := h3 k (by omega)
      obtain ⟨_, _, _, _, hcell'⟩ := own_cells3 (own_below3 h2 hb) hl0
      obtain ⟨gw, ga, W, rfl, rfl, rfl, r5⟩ := id r4
      rename_i g2 cap2 hv2 _
      obtain ⟨rfl, rfl⟩ : gr = g2 ∧ cap = cap2 := by simpa using hv2
      have c0 := (hcell' _ _ (by omega) r1 (.cells #[] 0)).2
      have c1 := (hcell' _ _ (by omega) r2 (.cells #[] 0)).2
      have c2 := (hcell' _ _ (by omega) r3 (.cells #[] 0)).2
      rw [Nat.mul_comm 3 k] at c0 c1 c2
      go_wp2_with fail
      refine ((r4.below hb).bit (by omega) hr).mono ?_
      rintro e w2 ⟨rfl, hb2⟩
      have hbb := hb.trans (hb2.mono hb.size)
      have hc3 : w2.cell? ⟨g, 1, none⟩ = some (.string lt) := (h1.below hbb h1.lt).cell 1
      by_cases hi : isLet s lt k row = true
      · have he : Hid (((lt[k]).toNat : Int) = ((s[row]).toNat : Int)) := by
          show ((lt[k]).toNat : Int) = _
          rw [isLet_at s lt k row hr (by omega)] at hi
          rw [of_decide_eq_true hi]
        rw [hi]
        go_wp2
        go_ret
        exact ⟨by rw [← he.out]; rfl, hbb⟩
      · have hi' : isLet s lt k row = false := by simpa using hi
        have HN2 : Hid (∀ j, j < k + 1 → isLet s lt j row = false) := by
          intro j hj
          by_cases e : j = k
          · rw [e]; exact hi'
          · exact HN.out j (by omega)
        rw [hi']
        go_wp2
        go_roundw
        case rel => exact ⟨k + 1, by omega, by go_num, HN2, hbb⟩
        case measure => simp [intOf]; omega
    · have hk1 : k = lt.size - 1 := by omega
      have he : Hid (((lt[lt.size - 1]).toNat : Int) = ((s[row]).toNat : Int)) := by
        show ((lt[lt.size - 1]).toNat : Int) = _
        have := (HLast.out (fun j hj => HN.out j (by omega))).2
        rw [HGe.out (lt.size - 1) (by omega), this]
      go_wp2
      go_ret
      exact ⟨by rw [← he.out]; rfl, hb⟩

theorem take_snoc (L : List UInt8) (k : Nat) (hk : k < L.length) : L.take (k + 1) = L.take k ++ [L.getD k 0] := by
  rw [List.take_add_one, List.getElem?_eq_getElem hk, List.getD_eq_getElem?_getD, List.getElem?_eq_getElem hk]; rfl
/-- What the counting comes to, when it ends at k. -/
theorem count_end (s : ByteArray) (c k row : Nat) (hr : row ≤ s.size) (hc : c < 256) (hk : k ≤ (letters s).length) (h1 : ∀ j, j < k → ((letters s).getD j 0).toNat < c) (h2 : k < (letters s).length → c ≤ ((letters s).getD k 0).toNat) : sumL (byN s) row ((letters s).take k) = less (byN s) c row := by
  obtain ⟨hl, he⟩ := lets_take (occ s s.size) c k (by omega) hk h1 h2
  have : (letters s).take k = lets (occ s s.size) c := by
    show (lets (occ s s.size) 256).take k = _
    rw [he, ← hl, List.take_left]
  rw [this, sumL_lets s row c hr (by omega)]
theorem count_none (s : ByteArray) (c k row : Nat) (hr : row ≤ s.size) (hc : c < 256) (hk : k ≤ (letters s).length) (h1 : ∀ j, j < k → ((letters s).getD j 0).toNat < c) (h2 : k < (letters s).length → c < ((letters s).getD k 0).toNat) : cnt (byN s) c row = 0 := by
  cases ho : occ s s.size c
  · exact occ_cnt ho hr
  · exfalso
    obtain ⟨hl, he⟩ := lets_take (occ s s.size) c k (by omega) hk h1 (fun h => Nat.le_of_lt (h2 h))
    obtain ⟨hl1, _⟩ := lets_take (occ s s.size) (c + 1) k (by omega) hk (fun j hj => Nat.lt_succ_of_lt (h1 j hj)) (fun h => h2 h)
    have : (lets (occ s s.size) (c + 1)).length = (lets (occ s s.size) c).length + 1 := by simp only [lets, ho, if_true, List.length_append, List.length_cons, List.length_nil]
    omega
theorem sumL_le (s : ByteArray) (row : Nat) (L : List UInt8) (hL : L.length ≤ 256) : sumL (byN s) row L ≤ 256 * row := by
  have : ∀ L : List UInt8, sumL (byN s) row L ≤ L.length * row := fun L => by
    induction L with
    | nil => simp [sumL]
    | cons x l ih => have := cnt_le (byN s) x.toNat row; simp only [sumL, List.length_cons, Nat.succ_mul]; omega
  exact Nat.le_trans (this L) (Nat.mul_le_mul_right _ hL)

end Go.Proofs.YtkebgnpifmcmaabGreat

namespace Go.Proofs.YtkebgnpifmcmaabGreat
open Go.RowKit

set_option maxRecDepth 10000 in
set_option maxHeartbeats 2000000 in
theorem few_count (w : World) (g c row : Nat) (s : ByteArray) (h : FewC w g s (bs (letters s))) (hn : s.size ≤ 2000) (hr : row ≤ s.size) (hc : c < 256) : Calls Tryz.prog 179 #[.pointer (some ⟨g, 0, none⟩), .int .u8 (c : Int), .int .i64 (row : Int)] w fun e w' => e = .returned (.tuple #[.int .i64 ((cnt (byN s) c row : Nat) : Int), .int .i64 ((less (byN s) c row : Nat) : Int)]) ∧ Below w.heap.size w w' := by
  obtain ⟨base, v, xs, h1, h2, h3⟩ := h
  have hlen := letters_le s
  have hsz := bs_size (letters s)
  have HGe : Hid (∀ k (h : k < (bs (letters s)).size), (bs (letters s))[k] = (letters s).getD k 0) := bs_letters s
  obtain ⟨lt, hlt⟩ : ∃ lt, lt = bs (letters s) := ⟨_, rfl⟩
  rw [← hlt] at h1 h2 h3 hsz HGe
  have hl1 : lt.size ≤ 256 := by omega
  have HSZ : Hid (lt.size = (letters s).length) := hsz
  clear hsz hlt hlen
  have hvs : ∃ ao cap, v = .slice ao lt.size cap := by
    rcases h2.2 with ⟨rfl, h0⟩ | ⟨gg, cap, cur, rfl, _⟩
    · exact ⟨none, 0, by rw [h0]⟩
    · exact ⟨_, _, rfl⟩
  obtain ⟨ao, cap, rfl⟩ := hvs
  have hc2 : w.cell? ⟨g, 2, none⟩ = some (.slice ao lt.size cap) := h1.cell 2
  go_enter Tryz.func179, Tryz.ntmps179
  go_wp2_with fail
  clear hc2
  go_loopw [16, 7, 8, 9, 10] (fun iv lv _ _ _ wr => ∃ k : Nat, k ≤ lt.size ∧ iv = .int .i64 (k : Int) ∧ lv = .int .i64 ((sumL (byN s) row ((letters s).take k) : Nat) : Int) ∧ Hid (∀ j, j < k → ((letters s).getD j 0).toNat < c) ∧ Below w.heap.size w wr) (fun iv _ _ _ _ _ => lt.size - (intOf iv).toNat)
  case atStart => exact ⟨0, by omega, rfl, rfl, fun j hj => by omega, Below.refl _ _⟩
  case round =>
    obtain ⟨k, hk, rfl, rfl, HN, hb⟩ := hrel
    have h1r := h1.below hb h1.lt
    have hsl := sumL_le s row ((letters s).take k) (by rw [List.length_take]; have := letters_le s; omega)
    by_cases hlt2 : k < lt.size
    · obtain ⟨a, b, d, r1, r2, r3, r4⟩ := h3 k hlt2
      obtain ⟨gr, cap2, hv2, _, hcell'⟩ := own_cells3 (own_below3 h2 hb) (by omega)
      obtain ⟨rfl, rfl⟩ : ao = some ⟨gr, 0, none⟩ ∧ cap = cap2 := by simpa using hv2
      obtain ⟨gw, ga, W, rfl, rfl, rfl, r5⟩ := id r4
      have c0 := (hcell' _ _ (by omega) r1 (.cells #[] 0)).2
      have c1 := (hcell' _ _ (by omega) r2 (.cells #[] 0)).2
      have c2 := (hcell' _ _ (by omega) r3 (.cells #[] 0)).2
      rw [Nat.mul_comm 3 k] at c0 c1 c2
      have hbA := (Below.refl wr.heap.size wr).alloc (Nat.le_refl _) (.cells #[.int .i64 (s.size : Int), .slice (some ⟨gw, 0, none⟩) (s.size / 64 + 1) (s.size / 64 + 1), .slice (some ⟨ga, 0, none⟩) (s.size / 64 + 1) (s.size / 64 + 1)] 70)
      have hc1 : ∀ o, (wr.alloc o).cell? ⟨g, 1, none⟩ = some (.string lt) := fun o => (h1r.alloc o).cell 1
      have hones := ((r4.below hb).below hbA).ones (by omega) hr
      have hbb := hb.alloc hb.size (.cells #[.int .i64 (s.size : Int), .slice (some ⟨gw, 0, none⟩) (s.size / 64 + 1) (s.size / 64 + 1), .slice (some ⟨ga, 0, none⟩) (s.size / 64 + 1) (s.size / 64 + 1)] 70)
      rw [cnt_isLet s lt k row hr hlt2] at hones
      have hxk := HGe.out k hlt2
      have HX : Hid ((lt[k]).toNat = ((letters s).getD k 0).toNat) := by show (lt[k]).toNat = _; rw [hxk]
      have HTK : Hid (sumL (byN s) row ((letters s).take (k + 1)) = sumL (byN s) row ((letters s).take k) + cnt (byN s) (lt[k]).toNat row) := by
        show sumL (byN s) row ((letters s).take (k + 1)) = _
        rw [take_snoc _ _ (by rw [← HSZ.out]; exact hlt2), sumL_append, HX.out]; simp [sumL]
      have hcl := cnt_le (byN s) (lt[k]).toNat row
      have HO : Hid _ := hones
      clear hxk hones
      rcases Nat.lt_trichotomy (lt[k]).toNat c with hx | hx | hx
      · have hd1 : decide (((lt[k]).toNat : Int) < (c : Int)) = true := by simpa using hx
        have HN2 : Hid (∀ j, j < k + 1 → ((letters s).getD j 0).toNat < c) := by
          intro j hj
          by_cases e : j = k
          · rw [e, ← HX.out]; exact hx
          · exact HN.out j (by omega)
        go_wp2_with fail
        refine Calls.mono HO.out ?_
        rintro e w2 ⟨rfl, hb2⟩
        have hbb2 := hbb.trans (hb2.mono hbb.size)
        go_wp2
        go_roundw
        case rel => exact ⟨k + 1, by omega, by go_num, by rw [HTK.out]; go_num, HN2, hbb2⟩
        case measure => simp [intOf]; omega
      · have HE : Hid (sumL (byN s) row ((letters s).take k) = less (byN s) c row) := count_end s c k row hr hc (by rw [← HSZ.out]; exact hk) HN.out (fun _ => by rw [← HX.out]; omega)
        clear HTK HX HN
        subst hx
        go_wp2_with fail
        refine Calls.mono HO.out ?_
        rintro e w2 ⟨rfl, hb2⟩
        have hbb2 := hbb.trans (hb2.mono hbb.size)
        go_wp2
        go_ret2
        exact ⟨by rw [HE.out]; rfl, hbb2⟩
      · have HE : Hid (sumL (byN s) row ((letters s).take k) = less (byN s) c row) := count_end s c k row hr hc (by rw [← HSZ.out]; exact hk) HN.out (fun _ => by rw [← HX.out]; omega)
        have HC : Hid (cnt (byN s) c row = 0) := count_none s c k row hr hc (by rw [← HSZ.out]; exact hk) HN.out (fun _ => by rw [← HX.out]; exact hx)
        clear HTK HX HN HO HGe HSZ hcell' h3 h2 r4 r5 hcl
        have hd1 : ((lt[k]).toNat : Int) = (c : Int) → False := by omega
        have hd2 : ¬ (lt[k]).toNat < c := by omega
        go_wp2
        go_ret2
        exact ⟨by rw [HE.out, HC.out]; rfl, hbb⟩
    · have hk2 : k = lt.size := by omega
      have HE : Hid (sumL (byN s) row ((letters s).take k) = less (byN s) c row) := count_end s c k row hr hc (by rw [← HSZ.out]; exact hk) HN.out (fun h => by rw [← HSZ.out] at h; omega)
      have HC : Hid (cnt (byN s) c row = 0) := count_none s c k row hr hc (by rw [← HSZ.out]; exact hk) HN.out (fun h => by rw [← HSZ.out] at h; omega)
      clear hk2
      go_wp2
      go_ret2
      exact ⟨by rw [HE.out, HC.out]; rfl, hb⟩
end Go.Proofs.YtkebgnpifmcmaabGreat

namespace Go.Proofs.YtkebgnpifmcmaabGreat
open Go.RowKit

theorem infoTally : (Tryz.prog.info? 206).map (fun i => (i.zero, i.size)) = some (some (.agg (AN 257 fun _ => .int .i64 0)), 257) := by kernel_rfl
theorem infoTally_size : (Tryz.prog.info? 206).map (·.size) = some 257 := by kernel_rfl
theorem AN_congr (n : Nat) (F G : Nat → Value) (h : ∀ j, j < n → F j = G j) : AN n F = AN n G := by
  apply Array.ext_getElem?
  intro i
  by_cases hi : i < n
  · rw [AN_get _ _ _ hi, AN_get _ _ _ hi, h i hi]
  · have h1 : (AN n F)[i]? = none := by rw [Array.getElem?_eq_none_iff, AN_size]; omega
    have h2 : (AN n G)[i]? = none := by rw [Array.getElem?_eq_none_iff, AN_size]; omega
    rw [h1, h2]

set_option maxRecDepth 100000 in
set_option maxHeartbeats 1000000 in
theorem tallyOf_any (b cf : Nat → Nat) (k g : Nat) (w : World) (hk : k ≤ 3000) (hcf : ∀ c, c < 256 → cf c = cnt b c k) (hA : Arr w g cf) :
    Calls Tryz.prog 160 #[.pointer (some ⟨g, 0, none⟩)] w fun e w' => e = .returned (.agg (AN 257 (IN fun c => less b c k))) ∧ Below w.heap.size w w' := by
  have HCF : Hid _ := hcf
  clear hcf
  have hb0 : Below w.heap.size w ((w.alloc (.cells (AN 257 fun _ => .int .i64 0) 206)).alloc (.cells (AN 257 fun _ => .int .i64 0) 206)) := ((Below.refl _ _).alloc (Nat.le_refl _) _).alloc (by simp) _
  have hA0 := (hA.alloc (.cells (AN 257 fun _ => .int .i64 0) 206)).alloc (.cells (AN 257 fun _ => .int .i64 0) 206)
  have hr0 := (Blk.new w 206 (AN 257 fun _ => .int .i64 0)).alloc (.cells (AN 257 fun _ => .int .i64 0) 206)
  have hr1 := Blk.new (w.alloc (.cells (AN 257 fun _ => .int .i64 0) 206)) 206 (AN 257 fun _ => .int .i64 0)
  rw [show (w.alloc (.cells (AN 257 fun _ => .int .i64 0) 206)).heap.size = w.heap.size + 1 from by simp] at hr1
  have hgl := hA.lt
  clear hA
  go_enter Tryz.func160, Tryz.ntmps160
  go_wp2_with (refine wpList_alloc_AN rfl 206 257 (.int .i64 0) infoTally rfl ?_)
  generalize (w.alloc (.cells (AN 257 fun _ => .int .i64 0) 206)).alloc (.cells (AN 257 fun _ => .int .i64 0) 206) = W0 at *
  obtain ⟨G, hG⟩ : ∃ G, G = w.heap.size := ⟨_, rfl⟩
  rw [← hG] at hr0 hr1 hb0 hgl ⊢
  have HG : Hid (G = w.heap.size) := hG
  clear hG
  go_loopw [7, 4, 5] (fun iv _ _ wr => ∃ c : Nat, c ≤ 256 ∧ iv = .int .i64 (c : Int) ∧ Arr wr g cf ∧ Blk wr G 206 (AN 257 fun _ => .int .i64 0) ∧ (∃ F, Blk wr (G + 1) 206 (AN 257 (IN F)) ∧ Hid (∀ j, j < c + 1 → F j = less b j k)) ∧ Below G w wr) (fun iv _ _ _ => 256 - (intOf iv).toNat)
  case atStart => exact ⟨0, Nat.zero_le _, rfl, hA0, hr0, ⟨fun _ => 0, hr1, fun j hj => by rw [show j = 0 from by omega, less_zero]⟩, hb0⟩
  case round =>
    clear hA0 hr0 hr1 hb0
    obtain ⟨c, hc, rfl, hA, hr0, ⟨F, hr1, HF⟩, hb⟩ := hrel
    by_cases hlt : c < 256
    · have hc1 := hA.cell hlt
      have hc2 := hr1.cellAN (show c < 257 by omega)
      rw [IN_at] at hc2
      have hc3 := hr1.cellAN (show c + 1 < 257 by omega)
      have hfz := hr1.free (c + 1)
      have hq1 : (c : Int) < 256 := by omega
      have hle1 : cf c ≤ 3000 := by rw [HCF.out c hlt]; exact Nat.le_trans (cnt_le _ _ _) hk
      have hle2 : F c ≤ 3000 := by rw [HF.out c (by omega)]; exact Nat.le_trans (less_le _ _ _) hk
      have HN : Hid (F c + cf c = less b (c + 1) k) := by show F c + cf c = _; rw [HF.out c (by omega), HCF.out c hlt, less_succ]
      have hdr : ∀ q, (wr.drewN q).cell? ⟨G + 1, c, none⟩ = some (.int .i64 (F c : Int)) := fun q => hc2
      have hdr2 : ∀ q, (wr.drewN q).cell? ⟨G + 1, c + 1, none⟩ = some (IN F (c + 1)) := fun q => hc3
      have hdr3 : ∀ q, (wr.drewN q).frozen? ⟨G + 1, c + 1, none⟩ = false := fun q => hfz
      go_wp2_with fail
      go_quiet (fail)
      go_wp2
      go_roundw
      case rel =>
        refine ⟨c + 1, by omega, by go_num, (show Arr (wr.drewN _) g cf from hA).setOther (by show g ≠ G + 1; omega) _, (show Blk (wr.drewN _) G _ _ from hr0).setOther (by show G ≠ G + 1; omega) _, ⟨upd F (c + 1) (F c + cf c), ?_, upd_next HF.out HN.out⟩, (bdrewN hb _).setCell (by show G ≤ G + 1; omega) _⟩
        have := Blk.setAN (w := wr.drewN nq) hr1 (c + 1) (.int .i64 ((F c + cf c : Nat) : Int))
        rw [updV_IN] at this
        simpa using this
      case measure => simp [intOf]; omega
    · have hc256 : c = 256 := by omega
      subst hc256
      have HE : Hid (AN 257 (IN F) = AN 257 (IN fun c => less b c k)) := AN_congr _ _ _ (fun j hj => by simp only [IN, HF.out j hj])
      go_wp2_with (first | (refine wpList_load_row rfl 206 (.tmp 3) rfl (G + 1) rfl 206 (AN 257 (IN F)) (0, 0) _ hr1 Tryz.underlying206 rfl (by rw [AN_size]; exact infoTally_size) ?_) | (refine wpList_store_row rfl 206 (.tmp 2) (.tmp 22) rfl G (AN 257 (IN F)) rfl rfl 206 (AN 257 fun _ => .int .i64 0) hr0 (by rw [AN_size]; exact infoTally_size) (by rw [AN_size, AN_size]) (AN_one _ _ (fun _ => rfl)) ?_))
      rw [HG.out] at hb hr0
      exact bodyPost_ret (v := .agg (AN 257 (IN F))) (results_cell_row (P := Tryz.prog) rfl _ _ G 206 (AN 257 (IN F)) (0, 0) _ rfl (by rw [HG.out]; exact hr0.setRow _) Tryz.underlying206 rfl (by rw [AN_size]; exact infoTally_size)) rfl ⟨by rw [HE.out], by rw [HG.out]; exact below_setRow' hb (Nat.le_refl _) _⟩

theorem fill_one (cs zeros : Array Value) (n : Nat) (hn : 0 < n) (h : cs.size = n) (hz : zeros.size = n) : Instr.fill (fun i => some (i * n, n)) zeros [(0, .agg cs)] = some cs := by
  have := Great.fill_whole hn [.agg cs] zeros (fun v hv => by simp at hv; subst hv; exact h) (by simp [hz])
  simpa [Value.cells] using this
theorem step_buildOne {P : Program} {ops : Array Oper} {o : Oper} {a : Act} {w : World} {K : Act → World → Prop} {Q : Exit → Act → World → Prop} {E : Prop}
    (hg : o.guard = none) (t e : TypeId) (x : Operand) (ho : o.op = .buildSlice t 1 #[(0, x)]) (cs : Array Value) (hx : a.eval x = .agg cs) (ie : TypeInfo) (z : Value) (n : Nat) (hu : P.underlying t = some (.slice e)) (hie : P.info? e = some ie) (hz : ie.zero = some z) (hs : ie.size = n) (hn : 0 < n) (hn2 : n ≤ 10000) (hcs : cs.size = n)
    (hK : K (a.put o.dst (.slice (some ⟨w.heap.size, 0, none⟩) 1 1)) (w.alloc (.cells cs e))) :
    if Region.wanted o (yielded ops a.tmps) = true then Oper.wp P o a w K Q else E := by
  have hw : Region.wanted o (yielded ops a.tmps) = true := by simp [Region.wanted, hg]
  rw [if_pos hw]
  subst hs
  refine wp_buildSlice t e 1 #[(0, x)] ho cs ie z hu hie hz (by omega) (by omega) ?_ hK
  have : (#[(0, x)].map fun (i, x) => (i, a.eval x)).toList = [(0, .agg cs)] := by simp [hx]
  rw [this]
  exact fill_one cs _ _ hn hcs (by simp)

/-- The tallies, one behind the other. -/
def tl (b : Nat → Nat) : Nat → List Value
  | 0 => []
  | q + 1 => tl b q ++ (AN 257 (IN fun c => less b c (64 * q))).toList
theorem tl_length (b : Nat → Nat) (q : Nat) : (tl b q).length = q * 257 := by
  induction q with
  | zero => rfl
  | succ q ih => simp only [tl, List.length_append, ih, Array.length_toList, AN_size]; omega
theorem cell_arr_new (w : World) (T : TypeId) (cs : Array Value) : ∀ (j : Nat) (u : Value), cs.toList[j]? = some u → (w.alloc (.cells cs T)).cell? ((⟨w.heap.size, 0, none⟩ : Addr).add j) = some u := by
  intro j u h
  have hk := Blk.new w T cs
  have h2 : (⟨w.heap.size, 0, none⟩ : Addr).add j = ⟨w.heap.size, j, none⟩ := by
    unfold Addr.add
    by_cases e : j = 0
    · simp [e]
    · simp [e]
  rw [h2, hk.cell j]
  simpa using h
theorem AN_mem (n : Nat) (F : Nat → Value) (h : ∀ j, (F j).oneCell' = true) : ∀ u ∈ (AN n F).toList, u.oneCell' = true := by
  intro u hu
  simp only [AN, Array.toList_map, List.mem_map] at hu
  obtain ⟨j, _, rfl⟩ := hu
  exact h j
theorem enterTally (args : Array Value) (w : World) : (callFunc 160 args).run Tryz.prog w = .ok (.enter 160 args) w := Go.MuLone.run_callFunc_enter (P := Tryz.prog) Tryz.func160 (by kernel_rfl) rfl args w
theorem Tryz.infoTally3 : (Tryz.prog.info? 206).map (fun i => (i.zero, i.size, i.bytes)) = some (some (.agg (AN 257 fun _ => .int .i64 0)), 257, 2056) := by kernel_rfl

set_option maxRecDepth 100000 in
set_option maxHeartbeats 1000000 in
theorem newMany_any (s : ByteArray) (w : World) (hn : s.size ≤ 2000) :
    Calls Tryz.prog 156 #[.string s] w fun e w' => ∃ g v, e = .returned (.pointer (some ⟨g, 0, none⟩)) ∧ Blk w' g 199 #[.string s, v] ∧ w'.ownsRow w.heap.size 206 257 v (s.size / 64 + 1) (tl (byN s) (s.size / 64 + 1)) ∧ Below w.heap.size w w' := by
  obtain ⟨i0, hi, hz0, hz1, hz2⟩ := info_parts Tryz.infoTally3
  have HZ : Hid (i0.size = 257) := hz1
  have hs1 : ¬ 16777216 < i0.size := by omega
  have hs2 : ¬ i0.size = 0 := by omega
  have hs3 : ∀ F, (AN 257 F).size = i0.size := fun F => by rw [AN_size, hz1]
  clear hz1
  go_enter Tryz.func156, Tryz.ntmps156
  go_wp2_with (refine wpList_alloc_arr rfl rfl ?_)
  have k0 := (Blk.new w 199 #[.string s, .slice none 0 0]).alloc (.cells (A256 fun _ => 0) 192)
  have a0 := Arr.new (w.alloc (.cells #[.string s, .slice none 0 0] 199))
  rw [show (w.alloc (.cells #[.string s, .slice none 0 0] 199)).heap.size = w.heap.size + 1 from by simp] at a0
  have hb0 : Below w.heap.size w ((w.alloc (.cells #[.string s, .slice none 0 0] 199)).alloc (.cells (A256 fun _ => 0) 192)) := ((Below.refl _ _).alloc (Nat.le_refl _) _).alloc (by simp) _
  generalize (w.alloc (.cells #[.string s, .slice none 0 0] 199)).alloc (.cells (A256 fun _ => 0) 192) = W0 at *
  obtain ⟨G, hG⟩ : ∃ G, G = w.heap.size := ⟨_, rfl⟩
  rw [← hG] at k0 a0 hb0 ⊢
  have HG : Hid (G = w.heap.size) := hG
  clear hG
  go_loopw [5, 6] (fun iv _ wr => ∃ q p : Nat, Hid (p = 64 * q) ∧ p ≤ s.size + 64 ∧ iv = .int .i64 (p : Int) ∧ (∃ cf, Arr wr (G + 1) cf ∧ Hid (∀ c, cf c = cnt (byN s) c (min p s.size))) ∧ (∃ v, Blk wr G 199 #[.string s, v] ∧ wr.ownsRow G 206 257 v q (tl (byN s) q)) ∧ Below G w wr) (fun iv _ _ => s.size + 64 - (intOf iv).toNat)
  case atStart => exact ⟨0, 0, rfl, by omega, rfl, ⟨_, a0, fun c => by simp [cnt]⟩, ⟨_, k0, World.ownsRow_nil _ _ _ _⟩, hb0⟩
  case round =>
    clear k0 a0 hb0
    obtain ⟨q, p, HP, hq, rfl, ⟨cf, hA, HC⟩, ⟨v, hk, hown⟩, hb⟩ := hrel
    have hsz := hb.size
    by_cases hlt : p ≤ s.size
    · go_upto_region 6 with fail
      have hmin : min p s.size = p := by omega
      have hq31 : q ≤ 32 := by have := HP.out; omega
      have hAd : Arr wr.drew (G + 1) cf := hA
      have hkd : Blk wr.drew G 199 #[.string s, v] := hk
      have hownd : wr.drew.ownsRow G 206 257 v q (tl (byN s) q) := hown
      have hltG := hk.lt
      have hltA := hA.lt
      have hGV : G ≤ wr.drew.heap.size := Nat.le_of_lt hltG
      have hcv : wr.cell? ⟨G, 1, none⟩ = some v := hk.cell 1
      have HT : Hid (∀ c, c < 256 → cf c = cnt (byN s) c p) := fun c _ => by rw [HC.out c, hmin]
      clear hmin
      go_cut [5] from 16 to 25 (fun s5 wx => s5 = .int .i64 (p : Int) ∧ (∃ v', Blk wx G 199 #[.string s, v'] ∧ wx.ownsRow G 206 257 v' (q + 1) (tl (byN s) (q + 1))) ∧ Arr wx (G + 1) cf ∧ Below G w wx)
      case first =>
        refine wp_region_any (by kernel_rfl) ?_
        refine wpAny_take (i := 0) (v := .pointer (some ⟨G, 0, none⟩)) rfl (by kernel_rfl) (by kernel_rfl) (by kernel_rfl) (fun _ _ _ h => h) (Or.inl ⟨rfl, fun w => by go_simp⟩) ?_
        refine wpAny_take (i := 1) (v := .pointer (some ⟨G, 0, none⟩)) rfl (by kernel_rfl) (by kernel_rfl) (by kernel_rfl) (fun _ _ _ h => h) (Or.inl ⟨rfl, fun w => by go_simp⟩) ?_
        refine wpAny_take (i := 2) (v := .pointer (some ⟨G, 0, none⟩)) rfl (by kernel_rfl) (by kernel_rfl) (by kernel_rfl) (fun _ _ _ h => h) (Or.inl ⟨rfl, fun w => by go_simp⟩) ?_
        refine wpAny_take (i := 3) (v := .pointer (some ⟨G, 1, none⟩)) rfl (by kernel_rfl) (by kernel_rfl) (by kernel_rfl) (fun _ _ _ h => h) (Or.inl ⟨rfl, fun w => by go_simp⟩) ?_
        refine wpAny_ready (rs := [4, 5]) (by kernel_rfl) (by simp) ?_
        refine AllReady.cons rfl (fun K hK => ?_) (AllReady.cons rfl (fun K hK => ?_) AllReady.nil)
        · go_simp
          refine hK _ _ ?_
          clear hK
          refine wpAny_ready (rs := [5]) (by kernel_rfl) (by simp) ?_
          refine AllReady.cons rfl (fun K hK => ?_) AllReady.nil
          refine step_calls (args := #[.pointer (some ⟨G + 1, 0, none⟩)]) rfl rfl enterTally (by simp [Act.eval]) (tallyOf_any (byN s) cf p (G + 1) wr.drew (by omega) HT.out hAd) ?_
          rintro e w2 ⟨rfl, hb2⟩
          refine ⟨_, rfl, hK _ _ ?_⟩
          clear hK
          have hd1 : w2.cell? ⟨G, 1, none⟩ = some v := (hkd.below hb2 hltG).cell 1
          have hd2 : ∀ o, (w2.alloc o).cell? ⟨G, 1, none⟩ = some v := fun o => ((hkd.below hb2 hltG).alloc o).cell 1
          refine wpAny_ready (rs := [6]) (by kernel_rfl) (by simp) ?_
          refine AllReady.cons rfl (fun K hK => ?_) AllReady.nil
          refine step_buildOne rfl 197 206 (.tmp 21) rfl (AN 257 (IN fun c => less (byN s) c p)) rfl i0 _ 257 Tryz.underlying197 hi hz0 HZ.out (by omega) (by omega) (AN_size _ _) ?_
          refine hK _ _ ?_
          clear hK
          refine wpAny_ready (rs := [7]) (by kernel_rfl) (by simp) ?_
          refine AllReady.cons rfl (fun K hK => ?_) AllReady.nil
          refine step_append_own rfl (.tmp 20) (.tmp 22) 197 rfl G 206 i0 (.agg (AN 257 fun _ => .int .i64 0)) 257 2056 Tryz.underlying197 hi hz0 HZ.out hz2 (AN_size _ _) (by decide) v q (tl (byN s) q) rfl (own_below3 (own_below3 hownd hb2) ((Below.refl _ _).alloc (Nat.le_refl _) _)) ⟨w2.heap.size, 0, none⟩ 1 1 (AN 257 (IN fun c => less (byN s) c p)).toList rfl (by simp [AN_size]) (cell_arr_new _ _ _) (AN_mem _ _ (fun _ => rfl)) (by unfold maxLen; omega) (by omega) (by have := hb2.size; simp; omega) ?_
          intro v' w3 hown3 hgr3
          refine hK _ _ ?_
          clear hK
          obtain ⟨g', cap', rfl⟩ := own_form hown3 (by omega)
          have hk3 := ((hkd.below hb2 hltG).alloc (.cells (AN 257 (IN fun c => less (byN s) c p)) 206)).grown hgr3 (blk_ne_own (hkd.below hb2 hltG) (own_below3 hownd hb2) (by decide))
          have hc3 : w3.cell? ⟨G, 1, none⟩ = some v := hk3.cell 1
          have hf3 := hk3.free 1
          refine wpAny_take (i := 8) (v := .pointer (some ⟨G, 0, none⟩)) rfl (by kernel_rfl) (by kernel_rfl) (by kernel_rfl) (fun _ _ _ h => h) (Or.inl ⟨rfl, fun w => by go_simp⟩) ?_
          refine wpAny_take (i := 9) (v := .pointer (some ⟨G, 1, none⟩)) rfl (by kernel_rfl) (by kernel_rfl) (by kernel_rfl) (fun _ _ _ h => h) (Or.inl ⟨rfl, fun w => by go_simp⟩) ?_
          refine wpAny_ready (rs := [10]) (by kernel_rfl) (by simp) ?_
          refine AllReady.cons rfl (fun K hK => ?_) AllReady.nil
          go_simp
          refine hK _ _ ?_
          clear hK
          refine wpAny_done (by kernel_rfl) ?_ _
          go_wp2_with fail
          go_meet
          have hA3 : Arr w3 (G + 1) cf := Blk.grown ((Blk.below (show Blk wr.drew (G + 1) _ _ from hAd) hb2 hltA).alloc (.cells (AN 257 (IN fun c => less (byN s) c p)) 206)) hgr3 (blk_ne_own (Blk.below (show Blk wr.drew (G + 1) _ _ from hAd) hb2 hltA) (own_below3 hownd hb2) (by decide))
          have hownA := own_below3 (own_below3 hownd hb2) ((Below.refl w2.heap.size w2).alloc (Nat.le_refl _) (.cells (AN 257 (IN fun c => less (byN s) c p)) 206))
          have hb3 : Below G w w3 := ((hb.drew.trans (hb2.mono hGV)).alloc (Nat.le_trans hGV hb2.size) _).grown hgr3 (by have := hb2.size; simp; omega) (fun g hg => (hownA.lt g hg).1)
          exact ⟨rfl, ⟨_, hk3.set 1 _, by rw [tl, ← HP.out]; exact own_setOther hown3 _ _ (blk_ne_own hk3 hown3 (by decide))⟩, hA3.setOther (by show G + 1 ≠ G; omega) _, hb3.setCell (Nat.le_refl _) _⟩
        · refine step_calls (args := #[.pointer (some ⟨G + 1, 0, none⟩)]) rfl rfl enterTally (by simp [Act.eval, Act.put]) (tallyOf_any (byN s) cf p (G + 1) wr.drew (by omega) HT.out hAd) ?_
          rintro e w2 ⟨rfl, hb2⟩
          refine ⟨_, rfl, hK _ _ ?_⟩
          clear hK
          have hd1 : w2.cell? ⟨G, 1, none⟩ = some v := (hkd.below hb2 hltG).cell 1
          have hd2 : ∀ o, (w2.alloc o).cell? ⟨G, 1, none⟩ = some v := fun o => ((hkd.below hb2 hltG).alloc o).cell 1
          refine wpAny_ready (rs := [4, 6]) (by kernel_rfl) (by simp) ?_
          refine AllReady.cons rfl (fun K hK => ?_) (AllReady.cons rfl (fun K hK => ?_) AllReady.nil)
          · go_simp
            refine hK _ _ ?_
            clear hK
            refine wpAny_ready (rs := [6]) (by kernel_rfl) (by simp) ?_
            refine AllReady.cons rfl (fun K hK => ?_) AllReady.nil
            refine step_buildOne rfl 197 206 (.tmp 21) rfl (AN 257 (IN fun c => less (byN s) c p)) rfl i0 _ 257 Tryz.underlying197 hi hz0 HZ.out (by omega) (by omega) (AN_size _ _) ?_
            refine hK _ _ ?_
            clear hK
            refine wpAny_ready (rs := [7]) (by kernel_rfl) (by simp) ?_
            refine AllReady.cons rfl (fun K hK => ?_) AllReady.nil
            refine step_append_own rfl (.tmp 20) (.tmp 22) 197 rfl G 206 i0 (.agg (AN 257 fun _ => .int .i64 0)) 257 2056 Tryz.underlying197 hi hz0 HZ.out hz2 (AN_size _ _) (by decide) v q (tl (byN s) q) rfl (own_below3 (own_below3 hownd hb2) ((Below.refl _ _).alloc (Nat.le_refl _) _)) ⟨w2.heap.size, 0, none⟩ 1 1 (AN 257 (IN fun c => less (byN s) c p)).toList rfl (by simp [AN_size]) (cell_arr_new _ _ _) (AN_mem _ _ (fun _ => rfl)) (by unfold maxLen; omega) (by omega) (by have := hb2.size; simp; omega) ?_
            intro v' w3 hown3 hgr3
            refine hK _ _ ?_
            clear hK
            obtain ⟨g', cap', rfl⟩ := own_form hown3 (by omega)
            have hk3 := ((hkd.below hb2 hltG).alloc (.cells (AN 257 (IN fun c => less (byN s) c p)) 206)).grown hgr3 (blk_ne_own (hkd.below hb2 hltG) (own_below3 hownd hb2) (by decide))
            have hc3 : w3.cell? ⟨G, 1, none⟩ = some v := hk3.cell 1
            have hf3 := hk3.free 1
            refine wpAny_take (i := 8) (v := .pointer (some ⟨G, 0, none⟩)) rfl (by kernel_rfl) (by kernel_rfl) (by kernel_rfl) (fun _ _ _ h => h) (Or.inl ⟨rfl, fun w => by go_simp⟩) ?_
            refine wpAny_take (i := 9) (v := .pointer (some ⟨G, 1, none⟩)) rfl (by kernel_rfl) (by kernel_rfl) (by kernel_rfl) (fun _ _ _ h => h) (Or.inl ⟨rfl, fun w => by go_simp⟩) ?_
            refine wpAny_ready (rs := [10]) (by kernel_rfl) (by simp) ?_
            refine AllReady.cons rfl (fun K hK => ?_) AllReady.nil
            go_simp
            refine hK _ _ ?_
            clear hK
            refine wpAny_done (by kernel_rfl) ?_ _
            go_wp2_with fail
            go_meet
            have hA3 : Arr w3 (G + 1) cf := Blk.grown ((Blk.below (show Blk wr.drew (G + 1) _ _ from hAd) hb2 hltA).alloc (.cells (AN 257 (IN fun c => less (byN s) c p)) 206)) hgr3 (blk_ne_own (Blk.below (show Blk wr.drew (G + 1) _ _ from hAd) hb2 hltA) (own_below3 hownd hb2) (by decide))
            have hownA := own_below3 (own_below3 hownd hb2) ((Below.refl w2.heap.size w2).alloc (Nat.le_refl _) (.cells (AN 257 (IN fun c => less (byN s) c p)) 206))
            have hb3 : Below G w w3 := ((hb.drew.trans (hb2.mono hGV)).alloc (Nat.le_trans hGV hb2.size) _).grown hgr3 (by have := hb2.size; simp; omega) (fun g hg => (hownA.lt g hg).1)
            exact ⟨rfl, ⟨_, hk3.set 1 _, by rw [tl, ← HP.out]; exact own_setOther hown3 _ _ (blk_ne_own hk3 hown3 (by decide))⟩, hA3.setOther (by show G + 1 ≠ G; omega) _, hb3.setCell (Nat.le_refl _) _⟩
          · refine step_buildOne rfl 197 206 (.tmp 21) rfl (AN 257 (IN fun c => less (byN s) c p)) rfl i0 _ 257 Tryz.underlying197 hi hz0 HZ.out (by omega) (by omega) (AN_size _ _) ?_
            refine hK _ _ ?_
            clear hK
            refine wpAny_ready (rs := [4]) (by kernel_rfl) (by simp) ?_
            refine AllReady.cons rfl (fun K hK => ?_) AllReady.nil
            go_simp
            refine hK _ _ ?_
            clear hK
            refine wpAny_ready (rs := [7]) (by kernel_rfl) (by simp) ?_
            refine AllReady.cons rfl (fun K hK => ?_) AllReady.nil
            refine step_append_own rfl (.tmp 20) (.tmp 22) 197 rfl G 206 i0 (.agg (AN 257 fun _ => .int .i64 0)) 257 2056 Tryz.underlying197 hi hz0 HZ.out hz2 (AN_size _ _) (by decide) v q (tl (byN s) q) rfl (own_below3 (own_below3 hownd hb2) ((Below.refl _ _).alloc (Nat.le_refl _) _)) ⟨w2.heap.size, 0, none⟩ 1 1 (AN 257 (IN fun c => less (byN s) c p)).toList rfl (by simp [AN_size]) (cell_arr_new _ _ _) (AN_mem _ _ (fun _ => rfl)) (by unfold maxLen; omega) (by omega) (by have := hb2.size; simp; omega) ?_
            intro v' w3 hown3 hgr3
            refine hK _ _ ?_
            clear hK
            obtain ⟨g', cap', rfl⟩ := own_form hown3 (by omega)
            have hk3 := ((hkd.below hb2 hltG).alloc (.cells (AN 257 (IN fun c => less (byN s) c p)) 206)).grown hgr3 (blk_ne_own (hkd.below hb2 hltG) (own_below3 hownd hb2) (by decide))
            have hc3 : w3.cell? ⟨G, 1, none⟩ = some v := hk3.cell 1
            have hf3 := hk3.free 1
            refine wpAny_take (i := 8) (v := .pointer (some ⟨G, 0, none⟩)) rfl (by kernel_rfl) (by kernel_rfl) (by kernel_rfl) (fun _ _ _ h => h) (Or.inl ⟨rfl, fun w => by go_simp⟩) ?_
            refine wpAny_take (i := 9) (v := .pointer (some ⟨G, 1, none⟩)) rfl (by kernel_rfl) (by kernel_rfl) (by kernel_rfl) (fun _ _ _ h => h) (Or.inl ⟨rfl, fun w => by go_simp⟩) ?_
            refine wpAny_ready (rs := [10]) (by kernel_rfl) (by simp) ?_
            refine AllReady.cons rfl (fun K hK => ?_) AllReady.nil
            go_simp
            refine hK _ _ ?_
            clear hK
            refine wpAny_done (by kernel_rfl) ?_ _
            go_wp2_with fail
            go_meet
            have hA3 : Arr w3 (G + 1) cf := Blk.grown ((Blk.below (show Blk wr.drew (G + 1) _ _ from hAd) hb2 hltA).alloc (.cells (AN 257 (IN fun c => less (byN s) c p)) 206)) hgr3 (blk_ne_own (Blk.below (show Blk wr.drew (G + 1) _ _ from hAd) hb2 hltA) (own_below3 hownd hb2) (by decide))
            have hownA := own_below3 (own_below3 hownd hb2) ((Below.refl w2.heap.size w2).alloc (Nat.le_refl _) (.cells (AN 257 (IN fun c => less (byN s) c p)) 206))
            have hb3 : Below G w w3 := ((hb.drew.trans (hb2.mono hGV)).alloc (Nat.le_trans hGV hb2.size) _).grown hgr3 (by have := hb2.size; simp; omega) (fun g hg => (hownA.lt g hg).1)
            exact ⟨rfl, ⟨_, hk3.set 1 _, by rw [tl, ← HP.out]; exact own_setOther hown3 _ _ (blk_ne_own hk3 hown3 (by decide))⟩, hA3.setOther (by show G + 1 ≠ G; omega) _, hb3.setCell (Nat.le_refl _) _⟩
      case rest =>
        obtain ⟨rfl, ⟨v', hk', hown'⟩, hA', hb'⟩ := hcut
        clear hAd hkd hownd hk hown hb hA hltG hltA hGV hcv HT
        go_wp2_with fail
        go_loopw [6] (fun jv wx => ∃ i : Nat, p ≤ i ∧ i ≤ p + 64 ∧ i ≤ s.size ∧ jv = .int .i64 (i : Int) ∧ (∃ cf', Arr wx (G + 1) cf' ∧ Hid (∀ c, cf' c = cnt (byN s) c i)) ∧ Blk wx G 199 #[.string s, v'] ∧ wx.ownsRow G 206 257 v' (q + 1) (tl (byN s) (q + 1)) ∧ Below G w wx) (fun jv _ => s.size - (intOf jv).toNat)
        case atStart => exact ⟨p, Nat.le_refl _, by omega, hlt, rfl, ⟨cf, hA', fun c => by rw [HC.out c, show min p s.size = p from by omega]⟩, hk', hown', hb'⟩
        case round =>
          clear hA' hk' hown' hb'
          obtain ⟨i, hi1, hi2, hi3, rfl, ⟨cf', hA, HC'⟩, hk, hown, hb⟩ := hrel
          by_cases hlt2 : i < p + 64 ∧ i < s.size
          · obtain ⟨hl1, hl2⟩ := hlt2
            have hby := (s[i]).toNat_lt
            have hc1 := hA.cell hby
            have hfz := hA.free (s[i]).toNat
            have hle : cf' (s[i]).toNat ≤ 3000 := by rw [HC'.out]; exact Nat.le_trans (cnt_le _ _ _) (by omega)
            have HN : Hid (∀ c, upd cf' (s[i]).toNat (cf' (s[i]).toNat + 1) c = cnt (byN s) c (i + 1)) := by
              intro c
              by_cases e : c = (s[i]).toNat
              · rw [e, upd_at, HC'.out, ← byN_lt s i hl2, cnt_same]
              · rw [upd_ne _ _ _ e, HC'.out, cnt_other _ _ _ (by rw [byN_lt s i hl2]; exact fun h => e h.symm)]
            go_wp2
            go_roundw
            case rel => exact ⟨i + 1, by omega, by omega, by omega, by go_num, ⟨_, hA.set (s[i]).toNat (cf' (s[i]).toNat + 1), HN⟩, hk.setOther (by show G ≠ G + 1; omega) _, own_setOther hown _ _ (blk_ne_own (show Blk wr (G + 1) _ _ from hA) hown (by decide)), hb.setCell (by show G ≤ G + 1; omega) _⟩
            case measure => simp [intOf]; omega
          · have hie : i = min (p + 64) s.size := by omega
            have HC2 : Hid (∀ c, cf' c = cnt (byN s) c (min (p + 64) s.size)) := by intro c; rw [HC'.out c, hie]
            have HP2 : Hid (p + 64 = 64 * (q + 1)) := by show p + 64 = 64 * (q + 1); rw [HP.out]; omega
            have hlt3 : ¬ ((i : Int) < (p : Int) + 64 ∧ (i : Int) < (s.size : Int)) := by omega
            clear hie
            go_wp2
            go_roundw
            case rel => exact ⟨q + 1, p + 64, HP2, by omega, by go_num, ⟨cf', hA, HC2⟩, ⟨v', hk, hown⟩, hb⟩
            case measure => simp [intOf]; omega
    · have HQ : Hid (q = s.size / 64 + 1) := by show q = s.size / 64 + 1; have := HP.out; omega
      go_wp2
      go_ret
      rw [HG.out] at hown hb
      exact ⟨G, v, rfl, hk, by rw [← HQ.out]; exact hown, hb⟩
end Go.Proofs.YtkebgnpifmcmaabGreat

namespace Go.Proofs.YtkebgnpifmcmaabGreat
open Go.RowKit

theorem tl_get (b : Nat → Nat) : ∀ (m q c : Nat), q < m → c < 257 → (tl b m)[q * 257 + c]? = some (.int .i64 ((less b c (64 * q) : Nat) : Int))
  | 0, q, c, h, _ => absurd h (Nat.not_lt_zero _)
  | m + 1, q, c, h, hc => by
    by_cases e : q = m
    · subst e
      rw [tl, List.getElem?_append_right (by rw [tl_length]; omega), tl_length, show q * 257 + c - q * 257 = c from by omega, Array.getElem?_toList, AN_get _ _ _ hc]; rfl
    · rw [tl, List.getElem?_append_left (by rw [tl_length]; have : (q + 1) * 257 ≤ m * 257 := Nat.mul_le_mul_right _ (by omega); omega)]
      exact tl_get b m q c (by omega) hc
def ManyC (w : World) (g : Nat) (s : ByteArray) : Prop := ∃ base v, Blk w g 199 #[.string s, v] ∧ w.ownsRow base 206 257 v (s.size / 64 + 1) (tl (byN s) (s.size / 64 + 1))
theorem ManyC.below {w w' : World} {g : Nat} {s : ByteArray} (h : ManyC w g s) (hb : Below w.heap.size w w') : ManyC w' g s := by
  obtain ⟨base, v, h1, h2⟩ := h
  exact ⟨base, v, h1.below hb h1.lt, own_below3 h2 hb⟩
theorem own_cellsN {w : World} {base n z : Nat} {e : TypeId} {v : Value} {xs : List Value} (h : w.ownsRow base e z v n xs) (hn : 0 < n) : ∃ g cap, v = .slice (some ⟨g, 0, none⟩) n cap ∧ ∀ j u, j < n * z → xs[j]? = some u → w.cell? ⟨g, j, none⟩ = some u := by
  rcases h.2 with ⟨_, h0⟩ | ⟨g, cap, cur, rfl, hbs, hg, hnc, hcm, hcs, htake⟩
  · omega
  · refine ⟨g, cap, rfl, fun j u hj hu => ?_⟩
    have h1 : cur[j]? = some u := by
      rw [← htake, List.getElem?_take, if_pos hj] at hu
      simpa using hu
    have hB : Blk w g e cur := hg
    exact (hB.cell j).trans h1

theorem many_size (w : World) (g : Nat) (s : ByteArray) (h : ManyC w g s) : Calls Tryz.prog 184 #[.pointer (some ⟨g, 0, none⟩)] w fun e w' => e = .returned (.int .i64 (s.size : Int)) ∧ w' = w := by
  obtain ⟨base, v, h1, h2⟩ := h
  have hc : w.cell? ⟨g, 0, none⟩ = some (.string s) := h1.cell 0
  go_enter Tryz.func184, Tryz.ntmps184
  go_wp2
  go_ret
  exact ⟨rfl, rfl⟩
theorem many_bytes (w : World) (g : Nat) (s : ByteArray) (h : ManyC w g s) : Calls Tryz.prog 140 #[.pointer (some ⟨g, 0, none⟩)] w fun e w' => e = .returned (.string s) ∧ w' = w := by
  obtain ⟨base, v, h1, h2⟩ := h
  have hc : w.cell? ⟨g, 0, none⟩ = some (.string s) := h1.cell 0
  go_enter Tryz.func140, Tryz.ntmps140
  go_wp2
  go_ret
  exact ⟨rfl, rfl⟩
theorem many_at (w : World) (g row : Nat) (s : ByteArray) (h : ManyC w g s) (hr : row < s.size) : Calls Tryz.prog 182 #[.pointer (some ⟨g, 0, none⟩), .int .i64 (row : Int)] w fun e w' => e = .returned (.int .u8 ((s[row]).toNat : Int)) ∧ w' = w := by
  obtain ⟨base, v, h1, h2⟩ := h
  have hc : w.cell? ⟨g, 0, none⟩ = some (.string s) := h1.cell 0
  go_enter Tryz.func182, Tryz.ntmps182
  go_wp2
  go_ret
  exact ⟨rfl, rfl⟩

set_option maxRecDepth 10000 in
set_option maxHeartbeats 1000000 in
theorem many_count (w : World) (g c row : Nat) (s : ByteArray) (h : ManyC w g s) (hn : s.size ≤ 2000) (hr : row ≤ s.size) (hc : c < 256) : Calls Tryz.prog 183 #[.pointer (some ⟨g, 0, none⟩), .int .u8 (c : Int), .int .i64 (row : Int)] w fun e w' => e = .returned (.tuple #[.int .i64 ((cnt (byN s) c row : Nat) : Int), .int .i64 ((less (byN s) c row : Nat) : Int)]) ∧ Below w.heap.size w w' := by
  obtain ⟨base, v, h1, h2⟩ := h
  obtain ⟨gt, cap, rfl, hcell⟩ := own_cellsN h2 (by omega)
  have hc0 : w.cell? ⟨g, 0, none⟩ = some (.string s) := h1.cell 0
  have hc1 : w.cell? ⟨g, 1, none⟩ = some (.slice (some ⟨gt, 0, none⟩) (s.size / 64 + 1) cap) := h1.cell 1
  have hq : row / 64 < s.size / 64 + 1 := by omega
  have hmul : (row / 64 + 1) * 257 ≤ (s.size / 64 + 1) * 257 := Nat.mul_le_mul_right _ (by omega)
  have hc2 := hcell (row / 64 * 257 + c) _ (by omega) (tl_get (byN s) _ (row / 64) c hq (by omega))
  have hc3 := hcell (row / 64 * 257 + (c + 1)) _ (by omega) (tl_get (byN s) _ (row / 64) (c + 1) hq (by omega))
  have HL : Hid (less (byN s) (c + 1) (64 * (row / 64)) = less (byN s) c (64 * (row / 64)) + cnt (byN s) c (64 * (row / 64))) := less_succ _ _ _
  have hb1 := less_le (byN s) c (64 * (row / 64))
  have hb2 := less_le (byN s) (c + 1) (64 * (row / 64))
  clear hcell h2 h1
  go_enter Tryz.func183, Tryz.ntmps183
  go_wp2_with fail
  clear hc2 hc3 hc1 hmul hq
  go_loopw [9, 6, 7, 10] (fun iv sv lv _ wr => ∃ i : Nat, i ≤ row ∧ iv = .int .i64 (i : Int) ∧ sv = .int .i64 ((cnt (byN s) c i : Nat) : Int) ∧ lv = .int .i64 ((less (byN s) c i : Nat) : Int) ∧ wr = w) (fun iv _ _ _ _ => row - (intOf iv).toNat)
  case atStart => exact ⟨64 * (row / 64), by omega, by congr 1; omega, by rw [HL.out]; congr 1; omega, rfl, rfl⟩
  case round =>
    obtain ⟨i, hi, rfl, rfl, rfl, rfl⟩ := hrel
    have hle1 := cnt_le (byN s) c i
    have hle2 := less_le (byN s) c i
    by_cases hlt : i < row
    · have his : i < s.size := by omega
      have hbi := byN_lt s i his
      rcases Nat.lt_trichotomy (s[i]).toNat c with hx | hx | hx
      · have HN : Hid (cnt (byN s) c (i + 1) = cnt (byN s) c i ∧ less (byN s) c (i + 1) = less (byN s) c i + 1) := by
          refine ⟨?_, ?_⟩
          · rw [cnt_other _ _ _ (by rw [hbi]; omega)]
          · simp only [less, hbi, if_pos hx]
        have hd1 : ((s[i]).toNat : Int) = (c : Int) → False := by omega
        clear hbi
        go_wp2
        go_roundw
        case rel => exact ⟨i + 1, by omega, by go_num, by rw [HN.out.1], by rw [HN.out.2]; go_num, trivial⟩
        case measure => simp [intOf]; omega
      · have HN : Hid (cnt (byN s) c (i + 1) = cnt (byN s) c i + 1 ∧ less (byN s) c (i + 1) = less (byN s) c i) := by
          refine ⟨?_, ?_⟩
          · simp only [cnt, hbi, if_pos hx]
          · simp only [less, hbi, if_neg (show ¬ (s[i]).toNat < c by omega)]; omega
        clear hbi
        subst hx
        go_wp2
        go_roundw
        case rel => exact ⟨i + 1, by omega, by go_num, by rw [HN.out.1]; go_num, by rw [HN.out.2], trivial⟩
        case measure => simp [intOf]; omega
      · have HN : Hid (cnt (byN s) c (i + 1) = cnt (byN s) c i ∧ less (byN s) c (i + 1) = less (byN s) c i) := by
          refine ⟨?_, ?_⟩
          · rw [cnt_other _ _ _ (by rw [hbi]; omega)]
          · simp only [less, hbi, if_neg (show ¬ (s[i]).toNat < c by omega)]; omega
        have hd1 : ((s[i]).toNat : Int) = (c : Int) → False := by omega
        have hd2 : ¬ (s[i]).toNat < c := by omega
        clear hbi
        go_wp2
        go_roundw
        case rel => exact ⟨i + 1, by omega, by go_num, by rw [HN.out.1], by rw [HN.out.2], trivial⟩
        case measure => simp [intOf]; omega
    · have hir : i = row := by omega
      subst hir
      go_wp2
      go_ret2
      exact ⟨rfl, Below.refl _ _⟩

/-- A counter, of either kind, in memory. -/
def Ctr (w : World) (v : Value) (s : ByteArray) : Prop :=
  ((letters s).length ≤ 8 ∧ ∃ g, v = .iface 180 (.pointer (some ⟨g, 0, none⟩)) ∧ FewC w g s (bs (letters s))) ∨
  (8 < (letters s).length ∧ ∃ g, v = .iface 182 (.pointer (some ⟨g, 0, none⟩)) ∧ ManyC w g s)
theorem Ctr.below {w w' : World} {v : Value} {s : ByteArray} (h : Ctr w v s) (hb : Below w.heap.size w w') : Ctr w' v s := by
  rcases h with ⟨h1, g, h2, h3⟩ | ⟨h1, g, h2, h3⟩
  · exact .inl ⟨h1, g, h2, h3.below hb⟩
  · exact .inr ⟨h1, g, h2, h3.below hb⟩

set_option maxRecDepth 10000 in
theorem ranksOf_few (s lt : ByteArray) (w : World) (hn : s.size ≤ 2000) (h8 : lt.size ≤ 8) (hL : Hid (Calls Tryz.prog 154 #[.string s] w fun e w' => e = .returned (.string lt) ∧ Below w.heap.size w w')) : Calls Tryz.prog 141 #[.string s] w fun e w' => ∃ g, e = .returned (.iface 180 (.pointer (some ⟨g, 0, none⟩))) ∧ FewC w' g s lt ∧ Below w.heap.size w w' := by
  go_enter Tryz.func141, Tryz.ntmps141
  go_wp2_with fail
  refine Calls.mono hL.out ?_
  clear hL
  rintro e w1 ⟨rfl, hb1⟩
  go_wp2_with fail
  refine (newFew_any s lt w1 hn (by omega)).mono ?_
  rintro e w2 ⟨g, v, xs, rfl, h1, h2, h3, hb2⟩
  go_wp2
  go_ret
  exact ⟨g, rfl, ⟨_, v, xs, h1, h2, h3⟩, hb1.trans (hb2.mono hb1.size)⟩
set_option maxRecDepth 10000 in
theorem ranksOf_many (s lt : ByteArray) (w : World) (hn : s.size ≤ 2000) (h8 : 8 < lt.size) (hL : Hid (Calls Tryz.prog 154 #[.string s] w fun e w' => e = .returned (.string lt) ∧ Below w.heap.size w w')) : Calls Tryz.prog 141 #[.string s] w fun e w' => ∃ g, e = .returned (.iface 182 (.pointer (some ⟨g, 0, none⟩))) ∧ ManyC w' g s ∧ Below w.heap.size w w' := by
  go_enter Tryz.func141, Tryz.ntmps141
  go_wp2_with fail
  refine Calls.mono hL.out ?_
  clear hL
  rintro e w1 ⟨rfl, hb1⟩
  go_wp2_with fail
  refine (newMany_any s w1 hn).mono ?_
  rintro e w2 ⟨g, v, rfl, h1, h2, hb2⟩
  go_wp2
  go_ret
  exact ⟨g, rfl, ⟨_, v, h1, h2⟩, hb1.trans (hb2.mono hb1.size)⟩
theorem ranksOf_any (s : ByteArray) (w : World) (hn : s.size ≤ 2000) : Calls Tryz.prog 141 #[.string s] w fun e w' => ∃ v, e = .returned v ∧ Ctr w' v s ∧ Below w.heap.size w w' := by
  by_cases h8 : (letters s).length ≤ 8
  · refine (ranksOf_few s (bs (letters s)) w hn (by rw [bs_size]; exact h8) (lettersOf_any s w hn)).mono ?_
    rintro e w' ⟨g, rfl, h, hb⟩
    exact ⟨_, rfl, .inl ⟨h8, g, rfl, h⟩, hb⟩
  · refine (ranksOf_many s (bs (letters s)) w hn (by rw [bs_size]; exact Nat.lt_of_not_le h8) (lettersOf_any s w hn)).mono ?_
    rintro e w' ⟨g, rfl, h, hb⟩
    exact ⟨_, rfl, .inr ⟨Nat.lt_of_not_le h8, g, rfl, h⟩, hb⟩
end Go.Proofs.YtkebgnpifmcmaabGreat

namespace Go.Proofs.YtkebgnpifmcmaabGreat
open Go.RowKit

/-- A side, behind a pointer. -/
def SideP (w : World) (g off : Nat) (s : ByteArray) (e : Nat) : Prop :=
  ∃ v, w.cell? ⟨g, off, none⟩ = some v ∧ w.cell? ⟨g, off + 1, none⟩ = some (.int .i64 (e : Int)) ∧ g < w.heap.size ∧ Ctr w v s
theorem cell_below {w w' : World} {g off : Nat} {v : Value} (h : w.cell? ⟨g, off, none⟩ = some v) (hb : Below w.heap.size w w') : w'.cell? ⟨g, off, none⟩ = some v := by
  have hlt : g < w.heap.size := World.block_lt_of_cell? w ⟨g, off, none⟩ h
  rw [← h]
  simp only [World.cell?, hb.block g hlt]
theorem SideP.below {w w' : World} {g off : Nat} {s : ByteArray} {e : Nat} (h : SideP w g off s e) (hb : Below w.heap.size w w') : SideP w' g off s e := by
  obtain ⟨v, h1, h2, h3, h4⟩ := h
  exact ⟨v, cell_below h1 hb, cell_below h2 hb, Nat.lt_of_lt_of_le h3 hb.size, h4.below hb⟩

/-- A method of an interface value, found. -/
def Meth (t : TypeId) (x : Value) (name : String) (k : Nat) : Prop := (∀ w, (method 325 t x name).run Tryz.prog w = .ok (k, x) w) ∧ ∀ args w, (callFunc k args).run Tryz.prog w = .ok (.enter k args) w
/-- The call of a method of an interface, in a region that draws its order. -/
theorem step_meth {ops : Array Oper} {o : Oper} {a : Act} {w : World} {K : Act → World → Prop} {Q : Exit → Act → World → Prop} {E : Prop} {recv : Operand} {name : String} {ags : Array Operand} {ts : Array TypeId} {args : Array Value} {t : TypeId} {x : Value} {f : Nat} {R : Ending → World → Prop}
    (hg : o.guard = none) (hop : o.op = Op.call { callee := Callee.invoke recv name, args := ags, argTypes := ts }) (hrv : a.eval recv = .iface t x) (hm : Meth t x name f) (hev : ags.map a.eval = args)
    (hC : Calls Tryz.prog f (#[x] ++ args) w R) (hK : ∀ e w', R e w' → ∃ v, e = .returned v ∧ K (a.put o.dst v) w') :
    if Region.wanted o (yielded ops a.tmps) = true then Oper.wp Tryz.prog o a w K Q else E := by
  have hw : Region.wanted o (yielded ops a.tmps) = true := by simp [Region.wanted, hg]
  rw [if_pos hw]
  unfold Oper.wp
  have hext : (#[Value.iface t x] ++ args).extract 1 (#[Value.iface t x] ++ args).size = args := by
    cases args; simp
  have h0 : (#[Value.iface t x] ++ args)[0]? = some (Value.iface t x) := by cases args; simp
  have hD : Tryz.prog.types.size + Made.depth = 325 := by kernel_rfl
  have hp : ∀ W, (program).run Tryz.prog W = .ok Tryz.prog W := fun _ => rfl
  have hrun : (execOp a.eval o).run Tryz.prog w = .ok (.enter f (#[x] ++ args)) w := by
    simp only [execOp, hop, resolve, invoke, hev, hrv, Sem.run_bind, Sem.run_pure, Result.andThen, h0, hext, callMethod, hp, hD, hm.1, hm.2]
  rw [hrun, Oper.upon_enter]
  refine hC.mono (fun e w' h => ?_)
  obtain ⟨v, rfl, hk⟩ := hK e w' h
  exact hk
theorem m_fs (a : Addr) : Meth 180 (.pointer (some a)) "Size" 180 := ⟨fun _ => by kernel_rfl, Go.MuLone.run_callFunc_enter (P := Tryz.prog) Tryz.func180 (by kernel_rfl) rfl⟩
theorem m_fa (a : Addr) : Meth 180 (.pointer (some a)) "At" 178 := ⟨fun _ => by kernel_rfl, Go.MuLone.run_callFunc_enter (P := Tryz.prog) Tryz.func178 (by kernel_rfl) rfl⟩
theorem m_fc (a : Addr) : Meth 180 (.pointer (some a)) "Count" 179 := ⟨fun _ => by kernel_rfl, Go.MuLone.run_callFunc_enter (P := Tryz.prog) Tryz.func179 (by kernel_rfl) rfl⟩
theorem m_ms (a : Addr) : Meth 182 (.pointer (some a)) "Size" 184 := ⟨fun _ => by kernel_rfl, Go.MuLone.run_callFunc_enter (P := Tryz.prog) Tryz.func184 (by kernel_rfl) rfl⟩
theorem m_ma (a : Addr) : Meth 182 (.pointer (some a)) "At" 182 := ⟨fun _ => by kernel_rfl, Go.MuLone.run_callFunc_enter (P := Tryz.prog) Tryz.func182 (by kernel_rfl) rfl⟩
theorem m_mc (a : Addr) : Meth 182 (.pointer (some a)) "Count" 183 := ⟨fun _ => by kernel_rfl, Go.MuLone.run_callFunc_enter (P := Tryz.prog) Tryz.func183 (by kernel_rfl) rfl⟩

/-- What a counter does, of whichever kind. -/
theorem Ctr.ops {w : World} {v : Value} {s : ByteArray} (h : Ctr w v s) (hn : s.size ≤ 2000) : ∃ t x kS kA kC, v = .iface t x ∧ Meth t x "Size" kS ∧ Meth t x "At" kA ∧ Meth t x "Count" kC ∧
    Hid (∀ w', Below w.heap.size w w' → Calls Tryz.prog kS #[x] w' fun e w2 => e = .returned (.int .i64 (s.size : Int)) ∧ w2 = w') ∧
    Hid (∀ w' row (hr : row < s.size), Below w.heap.size w w' → Calls Tryz.prog kA #[x, .int .i64 (row : Int)] w' fun e w2 => e = .returned (.int .u8 ((s[row]).toNat : Int)) ∧ Below w'.heap.size w' w2) ∧
    Hid (∀ w' (c row : Nat), c < 256 → row ≤ s.size → Below w.heap.size w w' → Calls Tryz.prog kC #[x, .int .u8 (c : Int), .int .i64 (row : Int)] w' fun e w2 => e = .returned (.tuple #[.int .i64 ((cnt (byN s) c row : Nat) : Int), .int .i64 ((less (byN s) c row : Nat) : Int)]) ∧ Below w'.heap.size w' w2) := by
  rcases h with ⟨_, g, rfl, h⟩ | ⟨_, g, rfl, h⟩
  · exact ⟨_, _, _, _, _, rfl, m_fs _, m_fa _, m_fc _, fun w' hb => few_size w' g s _ (h.below hb), fun w' row hr hb => few_at w' g row s (h.below hb) hn hr, fun w' c row hc hr hb => few_count w' g c row s (h.below hb) hn hr hc⟩
  · exact ⟨_, _, _, _, _, rfl, m_ms _, m_ma _, m_mc _, fun w' hb => many_size w' g s (h.below hb), fun w' row hr hb => (many_at w' g row s (h.below hb) hr).mono (fun e w2 h => ⟨h.1, h.2 ▸ Below.refl _ _⟩), fun w' c row hc hr hb => many_count w' g c row s (h.below hb) hn hr hc⟩

set_option maxRecDepth 10000 in
theorem side_rows (w : World) (g off e : Nat) (s : ByteArray) (h : SideP w g off s e) (hn : s.size ≤ 2000) : Calls Tryz.prog 59 #[.pointer (some ⟨g, off, none⟩)] w fun en w' => en = .returned (.int .i64 ((s.size + 1 : Nat) : Int)) ∧ w' = w := by
  obtain ⟨v, h1, h2, h3, h4⟩ := h
  obtain ⟨t, x, kS, kA, kC, rfl, ⟨hm, he⟩, _, _, HS, _, _⟩ := h4.ops hn
  clear h4
  go_enter Tryz.func59, Tryz.ntmps59
  go_wp2_with fail
  refine (HS.out w (Below.refl _ _)).mono ?_
  rintro en w1 ⟨rfl, rfl⟩
  go_wp2
  go_ret
  exact ⟨by rw [Int.natCast_add]; rfl, rfl⟩

/-- Rows ahead of a row, that of the END left out. -/
theorem idxOf (e r : Nat) : idx e r = if e < r then r - 1 else r := rfl

/-- How many rows ahead of a row have less than c, or the END. -/
def lessE (b : Nat → Nat) (e c row : Nat) : Nat := less b c (idx e row) + (if e < row then 1 else 0)
theorem lessE_pos {b : Nat → Nat} {e c row : Nat} (h : e < row) : lessE b e c row = less b c (row - 1) + 1 := by rw [lessE, idxOf, if_pos h, if_pos h]
theorem lessE_neg {b : Nat → Nat} {e c row : Nat} (h : ¬ e < row) : lessE b e c row = less b c row := by rw [lessE, idxOf, if_neg h, if_neg h]; rfl

set_option maxRecDepth 10000 in
theorem side_counted (w : World) (g off e row : Nat) (s : ByteArray) (h : SideP w g off s e) (hn : s.size ≤ 2000) (hr : row ≤ s.size + 1) : Calls Tryz.prog 133 #[.pointer (some ⟨g, off, none⟩), .int .i64 (row : Int)] w fun en w' => en = .returned (.int .i64 ((idx e row : Nat) : Int)) ∧ w' = w := by
  obtain ⟨v, h1, h2, h3, h4⟩ := h
  clear h4
  by_cases hlt : e < row
  · have hx : Hid (idx e row = row - 1) := by show idx e row = row - 1; rw [idxOf, if_pos hlt]
    have hq1 : (row : Int) - 1 = ((row - 1 : Nat) : Int) := by omega
    go_enter Tryz.func133, Tryz.ntmps133
    go_wp2
    go_ret
    exact ⟨by rw [hx.out, ← hq1]; rfl, rfl⟩
  · have hx : Hid (idx e row = row) := by show idx e row = row; rw [idxOf, if_neg hlt]
    go_enter Tryz.func133, Tryz.ntmps133
    go_wp2
    go_ret
    exact ⟨by rw [hx.out]; rfl, rfl⟩

theorem enterCounted (args : Array Value) (w : World) : (callFunc 133 args).run Tryz.prog w = .ok (.enter 133 args) w := Go.MuLone.run_callFunc_enter (P := Tryz.prog) Tryz.func133 (by kernel_rfl) rfl args w

set_option maxRecDepth 10000 in
set_option maxHeartbeats 400000 in
theorem side_rank (w : World) (g off e c row : Nat) (s : ByteArray) (h : SideP w g off s e) (hn : s.size ≤ 2000) (he2 : e ≤ s.size) (hc : c < 256) (hr : row ≤ s.size + 1) : Calls Tryz.prog 95 #[.pointer (some ⟨g, off, none⟩), .int .u8 (c : Int), .int .i64 (row : Int)] w fun en w' => en = .returned (.tuple #[.int .i64 ((cnt (byN s) c (idx e row) : Nat) : Int), .int .i64 ((lessE (byN s) e c row : Nat) : Int)]) ∧ Below w.heap.size w w' := by
  have HCO : Hid _ := side_counted w.drew g off e row s (h.below (Below.refl _ _).drew) hn hr
  obtain ⟨v, h1, h2, h3, h4⟩ := h
  obtain ⟨t, x, kS, kA, kC, rfl, _, _, hm, _, _, HC⟩ := h4.ops hn
  clear h4
  have hix : idx e row ≤ s.size := by rw [idxOf]; split <;> omega
  have HCC : Hid _ := HC.out w.drew c (idx e row) hc hix (Below.refl _ _).drew
  have HL : Hid (lessE (byN s) e c row = less (byN s) c (idx e row) + (if e < row then 1 else 0)) := rfl
  have hle1 := less_le (byN s) c (idx e row)
  clear HC
  have h1' : w.drew.cell? ⟨g, off, none⟩ = some (.iface t x) := h1
  have h2' : w.drew.cell? ⟨g, off + 1, none⟩ = some (.int .i64 (e : Int)) := h2
  generalize idx e row = I at *
  generalize less (byN s) c I = LE at *
  generalize lessE (byN s) e c row = LR at *
  go_enter Tryz.func95, Tryz.ntmps95
  go_upto_region 1 with fail
  go_region_law (first
    | (refine step_calls (args := #[.pointer (some ⟨g, off, none⟩), .int .i64 (row : Int)]) rfl rfl enterCounted (by simp [Act.eval, Act.put]) HCO.out ?_; rintro en w1 ⟨rfl, rfl⟩; refine ⟨_, rfl, ?_⟩)
    | (refine step_meth (args := #[.int .u8 (c : Int), .int .i64 (I : Int)]) rfl rfl rfl hm (by simp [Act.eval, Act.put]) HCC.out ?_; rintro en w2 ⟨rfl, hb⟩; refine ⟨_, rfl, ?_⟩; have h3' := cell_below h2' hb))
  all_goals
    have hb' : Below w.heap.size w w2 := (Below.refl w.heap.size w).drew.trans hb
    by_cases hlt : e < row
    · have HL2 : Hid (LR = LE + 1) := by show LR = LE + 1; rw [HL.out, if_pos hlt]
      clear HL
      go_wp2
      go_ret2
      exact ⟨by rw [HL2.out, Int.natCast_add]; rfl, hb'⟩
    · have HL2 : Hid (LR = LE) := by show LR = LE; rw [HL.out, if_neg hlt]; rfl
      clear HL
      go_wp2
      go_ret2
      exact ⟨by rw [HL2.out]; rfl, hb'⟩

set_option maxRecDepth 10000 in
theorem side_first (w : World) (g off e c : Nat) (s : ByteArray) (h : SideP w g off s e) (hn : s.size ≤ 2000) (he2 : e ≤ s.size) (hc : c < 256) : Calls Tryz.prog 96 #[.pointer (some ⟨g, off, none⟩), .int .u8 (c : Int)] w fun en w' => en = .returned (.int .i64 ((1 + less (byN s) c s.size : Nat) : Int)) ∧ Below w.heap.size w w' := by
  have hx : Hid (lessE (byN s) e c (s.size + 1) = 1 + less (byN s) c s.size) := by
    show lessE (byN s) e c (s.size + 1) = _
    rw [lessE_pos (by omega), Nat.add_sub_cancel]; omega
  go_enter Tryz.func96, Tryz.ntmps96
  go_wp2_with fail
  refine (side_rows w g off e s h hn).mono ?_
  rintro en w1 ⟨rfl, rfl⟩
  go_wp2_with fail
  refine (side_rank w1 g off e c (s.size + 1) s h hn he2 hc (Nat.le_refl _)).mono ?_
  rintro en w2 ⟨rfl, hb⟩
  rw [hx.out]
  go_wp2
  go_ret
  exact ⟨rfl, hb⟩

set_option maxRecDepth 10000 in
set_option maxHeartbeats 400000 in
theorem side_ahead (w : World) (g off e row : Nat) (s : ByteArray) (h : SideP w g off s e) (hn : s.size ≤ 2000) (he2 : e ≤ s.size) (hr : row ≤ s.size) (_hne : row ≠ e) (hat : idx e row < s.size) : Calls Tryz.prog 94 #[.pointer (some ⟨g, off, none⟩), .int .i64 (row : Int)] w fun en w' => en = .returned (.tuple #[.int .u8 ((s[idx e row]).toNat : Int), .int .i64 ((1 + rk (byN s) s.size (idx e row) : Nat) : Int)]) ∧ Below w.heap.size w w' := by
  obtain ⟨v, h1, h2, h3, h4⟩ := id h
  obtain ⟨t, x, kS, kA, kC, rfl, _, hm, _, _, HA, _⟩ := h4.ops hn
  clear h4
  have hby := (s[idx e row]).toNat_lt
  have HR : Hid (1 + less (byN s) (s[idx e row]).toNat s.size + cnt (byN s) (s[idx e row]).toNat (idx e row) = 1 + rk (byN s) s.size (idx e row)) := by
    show 1 + less (byN s) (s[idx e row]).toNat s.size + cnt (byN s) (s[idx e row]).toNat (idx e row) = _
    rw [rk, byN_lt s _ hat]; omega
  have hl1 := less_le (byN s) (s[idx e row]).toNat s.size
  have hl2 := cnt_le (byN s) (s[idx e row]).toNat (idx e row)
  have HAT := HA.out w.drew (idx e row) hat (Below.refl _ _).drew
  have h1' : w.drew.cell? ⟨g, off, none⟩ = some (.iface t x) := h1
  have HATC : Hid _ := HAT
  clear HAT HA
  have HCO : Hid _ := side_counted w.drew g off e row s (h.below (Below.refl _ _).drew) hn (by omega)
  have hrank := fun w' hb c hc => side_rank w' g off e c row s (SideP.below h hb) hn he2 hc (by omega)
  have HRK : Hid _ := hrank
  clear hrank
  have hfirst := fun w' hb c hc => side_first w' g off e c s (SideP.below h hb) hn he2 hc
  have HF : Hid _ := hfirst
  clear hfirst
  generalize hI : idx e row = I at *
  generalize hX : s[I] = X at *
  clear hX hI
  go_enter Tryz.func94, Tryz.ntmps94
  go_upto_region 1 with fail
  go_region_law (first
    | (refine step_calls (args := #[.pointer (some ⟨g, off, none⟩), .int .i64 (row : Int)]) rfl rfl enterCounted (by simp [Act.eval, Act.put]) HCO.out ?_; rintro en w1 ⟨rfl, rfl⟩; refine ⟨_, rfl, ?_⟩)
    | (refine step_meth (args := #[.int .i64 (I : Int)]) rfl rfl rfl hm (by simp [Act.eval, Act.put]) HATC.out ?_; rintro en w1 ⟨rfl, hb1'⟩; refine ⟨_, rfl, ?_⟩))
  all_goals
    have hb1 : Below w.heap.size w w1 := (Below.refl w.heap.size w).drew.trans hb1'
    go_wp2_with fail
    refine (HRK.out w1 hb1 X.toNat hby).mono ?_
    rintro en w2 ⟨rfl, hb2⟩
    have hb12 := hb1.trans (hb2.mono hb1.size)
    go_wp2_with fail
    refine (HF.out w2 hb12 X.toNat hby).mono ?_
    rintro en w3 ⟨rfl, hb3⟩
    go_wp2
    go_ret2
    exact ⟨by rw [← HR.out]; simp, hb12.trans (hb3.mono hb12.size)⟩
end Go.Proofs.YtkebgnpifmcmaabGreat
