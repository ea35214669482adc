import Derived.Test.YtkebgnpifmcmaaaXE
namespace Go.Proofs.Ytkebgnpifmcmaaa
open Go.RowKit

/-! What the letters tell. -/
theorem lets_split (F : Nat → Bool) (c d : Nat) : ∃ r, lets F (c + d) = lets F c ++ r ∧ ∀ x ∈ r, ∃ y, c ≤ y ∧ y < c + d ∧ x = UInt8.ofNat y := by
  induction d with
  | zero => exact ⟨[], by simp, fun x hx => by cases hx⟩
  | succ d ih =>
    obtain ⟨r, hr, hx⟩ := ih
    refine ⟨r ++ (if F (c + d) then [UInt8.ofNat (c + d)] else []), by rw [← Nat.add_assoc, lets, hr, List.append_assoc], fun x hm => ?_⟩
    rcases List.mem_append.1 hm with h | h
    · obtain ⟨y, h1, h2, h3⟩ := hx x h
      exact ⟨y, h1, by omega, h3⟩
    · cases hF : F (c + d)
      · rw [hF] at h; simp at h
      · rw [hF] at h
        simp only [if_true, List.mem_singleton] at h
        exact ⟨c + d, by omega, by omega, h⟩
theorem lets_mem (F : Nat → Bool) (c : Nat) : ∀ x ∈ lets F c, ∃ y, y < c ∧ x = UInt8.ofNat y := by
  obtain ⟨r, hr, hx⟩ := lets_split F 0 c
  rw [Nat.zero_add] at hr hx
  intro x hm
  rw [hr] at hm
  simp [lets] at hm
  obtain ⟨y, _, h2, h3⟩ := hx x hm
  exact ⟨y, h2, h3⟩
theorem ofNat_toNat {y : Nat} (h : y < 256) : (UInt8.ofNat y).toNat = y := by simp [UInt8.toNat_ofNat']; omega
theorem lets_take (F : Nat → Bool) (c k : Nat) (hc : c ≤ 256) (hk : k ≤ (lets F 256).length) (h1 : ∀ j, j < k → ((lets F 256).getD j 0).toNat < c) (h2 : k < (lets F 256).length → c ≤ ((lets F 256).getD k 0).toNat) : (lets F c).length = k ∧ lets F 256 = lets F c ++ (lets F 256).drop k := by
  obtain ⟨r, hr, hx⟩ := lets_split F c (256 - c)
  rw [show c + (256 - c) = 256 from by omega] at hr hx
  have hlen : (lets F c).length = k := by
    rcases Nat.lt_trichotomy (lets F c).length k with h | h | h
    · have h3 := h1 _ h
      rw [hr, List.getD_eq_getElem?_getD, List.getElem?_append_right (Nat.le_refl _), Nat.sub_self] at h3
      have hr0 : 0 < r.length := by
        rw [hr, List.length_append] at hk; omega
      rw [List.getElem?_eq_getElem hr0, Option.getD_some] at h3
      obtain ⟨y, h4, h5, h6⟩ := hx _ (List.getElem_mem hr0)
      rw [h6, ofNat_toNat (by omega)] at h3
      omega
    · exact h
    · have hk2 : k < (lets F 256).length := by rw [hr, List.length_append]; omega
      have h3 := h2 hk2
      rw [hr, List.getD_eq_getElem?_getD, List.getElem?_append_left h, List.getElem?_eq_getElem h, Option.getD_some] at h3
      obtain ⟨y, h4, h5⟩ := lets_mem F c _ (List.getElem_mem h)
      rw [h5, ofNat_toNat (by omega)] at h3
      omega
  refine ⟨hlen, ?_⟩
  rw [hr, ← hlen, List.drop_left]
/-- How often the letters of a list stand ahead of a row. -/
def sumL (b : Nat → Nat) (row : Nat) : List UInt8 → Nat
  | [] => 0
  | x :: l => cnt b x.toNat row + sumL b row l
theorem sumL_append (b : Nat → Nat) (row : Nat) (l m : List UInt8) : sumL b row (l ++ m) = sumL b row l + sumL b row m := by
  induction l with
  | nil => simp [sumL]
  | cons x l ih => simp only [List.cons_append, sumL, ih]; omega
theorem occ_cnt {s : ByteArray} {c row : Nat} (h : occ s s.size c = false) (hr : row ≤ s.size) : cnt (byN s) c row = 0 := by
  have := cnt_mono (byN s) c hr
  simp [occ] at h
  omega
theorem sumL_lets (s : ByteArray) (row c : Nat) (hr : row ≤ s.size) (hc : c ≤ 256) : sumL (byN s) row (lets (occ s s.size) c) = less (byN s) c row := by
  induction c with
  | zero => rw [less_zero]; rfl
  | succ c ih =>
    rw [lets, sumL_append, ih (by omega), less_succ]
    cases ho : occ s s.size c
    · rw [occ_cnt ho hr]; simp [sumL]
    · simp only [if_true, sumL, ofNat_toNat (show c < 256 by omega)]; omega
/-- Where a byte that occurs stands among the letters. -/
theorem letters_has (s : ByteArray) (i : Nat) (hi : i < s.size) : ∃ k, k < (letters s).length ∧ (letters s).getD k 0 = s[i] := by
  have hlt := (s[i]).toNat_lt
  have ho : occ s s.size (s[i]).toNat = true := by
    have := cnt_lt (byN s) s.size i hi
    rw [byN_lt s i hi] at this
    simp [occ]; omega
  obtain ⟨r, hr, hx⟩ := lets_split (occ s s.size) ((s[i]).toNat + 1) (256 - ((s[i]).toNat + 1))
  have e1 : lets (occ s s.size) ((s[i]).toNat + 1) = lets (occ s s.size) (s[i]).toNat ++ [s[i]] := by
    simp only [lets, ho, if_true, UInt8.ofNat_toNat]
  rw [show (s[i]).toNat + 1 + (256 - ((s[i]).toNat + 1)) = 256 from by omega, e1] at hr
  refine ⟨(lets (occ s s.size) (s[i]).toNat).length, ?_, ?_⟩
  · unfold letters; rw [hr]; simp only [List.length_append, List.length_cons, List.length_nil]; omega
  · unfold letters; rw [hr]; simp [List.getD_eq_getElem?_getD]
/-- The ones of a letter's row. -/
theorem cnt_isLet (s lt : ByteArray) (k row : Nat) (hr : row ≤ s.size) (hk : k < lt.size) : cntB (isLet s lt k) row = cnt (byN s) (lt[k]).toNat row := by
  induction row with
  | zero => rfl
  | succ row ih =>
    rw [cntB, ih (by omega), cnt_succ, isLet_at s lt k row (by omega) hk, byN_lt s row (by omega)]
    by_cases e : s[row] = lt[k]
    · rw [decide_eq_true e, if_pos (by rw [e])]; rfl
    · rw [decide_eq_false e, if_neg (fun h => e (UInt8.toNat_inj.1 h))]; rfl

/-- The counter of few bytes, in memory. -/
def FewC (w : World) (g : Nat) (s lt : ByteArray) : Prop := ∃ base v xs, Blk w g 141 #[.int .i64 (s.size : Int), .string lt, v] ∧ w.ownsRow base 73 3 v lt.size xs ∧ BRs w s lt lt.size xs
theorem FewC.below {w w' : World} {g : Nat} {s lt : ByteArray} (h : FewC w g s lt) (hb : Below w.heap.size w w') : FewC w' g s lt := by
  obtain ⟨base, v, xs, h1, h2, h3⟩ := h
  exact ⟨base, v, xs, h1.below hb h1.lt, own_below3 h2 hb, h3.below hb⟩
theorem own_cells3 {w : World} {base n : Nat} {e : TypeId} {v : Value} {xs : List Value} (h : w.ownsRow base e 3 v n xs) (hn : 0 < n) : ∃ g cap, v = .slice (some ⟨g, 0, none⟩) n cap ∧ g < w.heap.size ∧ ∀ j u, j < 3 * n → xs[j]? = some u → ∀ o, (w.alloc o).cell? ⟨g, j, none⟩ = some u ∧ w.cell? ⟨g, j, none⟩ = some u := by
  rcases h.2 with ⟨_, h0⟩ | ⟨g, cap, cur, rfl, hbs, hg, hnc, hcm, hcs, htake⟩
  · omega
  · refine ⟨g, cap, rfl, (Array.getElem?_eq_some_iff.1 hg).1, fun j u hj hu o => ?_⟩
    have h1 : cur[j]? = some u := by
      rw [← htake, List.getElem?_take, if_pos (by omega)] at hu
      simpa using hu
    have hB : Blk w g e cur := hg
    exact ⟨((hB.alloc o).cell j).trans h1, (hB.cell j).trans h1⟩

theorem few_size (w : World) (g : Nat) (s lt : ByteArray) (h : FewC w g s lt) : Calls Try.prog 129 #[.pointer (some ⟨g, 0, none⟩)] w fun e w' => e = .returned (.int .i64 (s.size : Int)) ∧ w' = w := by
  obtain ⟨base, v, xs, h1, h2, h3⟩ := h
  have hc : w.cell? ⟨g, 0, none⟩ = some (.int .i64 (s.size : Int)) := h1.cell 0
  go_enter Try.func129, Try.ntmps129
  go_wp2
  go_ret
  exact ⟨rfl, rfl⟩
theorem few_letters (w : World) (g : Nat) (s lt : ByteArray) (h : FewC w g s lt) : Calls Try.prog 91 #[.pointer (some ⟨g, 0, none⟩)] w fun e w' => e = .returned (.string lt) ∧ w' = w := by
  obtain ⟨base, v, xs, h1, h2, h3⟩ := h
  have hc : w.cell? ⟨g, 1, none⟩ = some (.string lt) := h1.cell 1
  go_enter Try.func91, Try.ntmps91
  go_wp2
  go_ret
  exact ⟨rfl, rfl⟩

set_option maxRecDepth 10000 in
set_option maxHeartbeats 400000 in
theorem few_rowOf (w : World) (g k : Nat) (s lt : ByteArray) (h : FewC w g s lt) (hk : k < lt.size) (hl : lt.size ≤ 300) : Calls Try.prog 92 #[.pointer (some ⟨g, 0, none⟩), .int .i64 (k : Int)] w fun e w' => ∃ a b c, e = .returned (.agg #[a, b, c]) ∧ BR w' a b c s.size (isLet s lt k) ∧ Below w.heap.size w w' := by
  obtain ⟨base, v, xs, h1, h2, h3⟩ := h
  obtain ⟨gr, cap, rfl, hlt, hcell⟩ := own_cells3 h2 (by omega)
  obtain ⟨a, b, c, r1, r2, r3, r4⟩ := h3 k hk
  have c0 := fun o => (hcell _ _ (by omega) r1 o).1
  have c1 := fun o => (hcell _ _ (by omega) r2 o).1
  have c2 := fun o => (hcell _ _ (by omega) r3 o).1
  rw [Nat.mul_comm 3 k] at c0 c1 c2
  have hk0 := Blk.new w 73 #[.int .i64 0, .slice none 0 0, .slice none 0 0]
  have hc : ∀ o, (w.alloc o).cell? ⟨g, 2, none⟩ = some (.slice (some ⟨gr, 0, none⟩) lt.size cap) := fun o => (h1.alloc o).cell 2
  obtain ⟨gw, ga, W, rfl, rfl, rfl, r5⟩ := id r4
  go_enter Try.func92, Try.ntmps92
  go_wp2
  have hb0 := (Below.refl w.heap.size w).alloc (Nat.le_refl _) (.cells #[.int .i64 (s.size : Int), .slice (some ⟨gw, 0, none⟩) (s.size / 64 + 1) (s.size / 64 + 1), .slice (some ⟨ga, 0, none⟩) (s.size / 64 + 1) (s.size / 64 + 1)] 73)
  exact bodyPost_ret (v := .agg #[.int .i64 (s.size : Int), .slice (some ⟨gw, 0, none⟩) (s.size / 64 + 1) (s.size / 64 + 1), .slice (some ⟨ga, 0, none⟩) (s.size / 64 + 1) (s.size / 64 + 1)]) (results_cell_row (P := Try.prog) rfl _ _ w.heap.size 73 _ (0, 0) _ rfl (Blk.new w _ _) Try.underlying73 rfl infoBR) rfl ⟨_, _, _, rfl, r4.below hb0, hb0⟩

theorem bs_letters (s : ByteArray) (k : Nat) (h : k < (bs (letters s)).size) : (bs (letters s))[k] = (letters s).getD k 0 := by
  rw [← tx_getD _ _ h, tx_bs]
theorem letters_le (s : ByteArray) : (letters s).length ≤ 256 := lets_le _ _
/-- Only one letter has its bit at a row. -/
theorem letters_last (s : ByteArray) (row : Nat) (hr : row < s.size) (h : ∀ j, j + 1 < (letters s).length → isLet s (bs (letters s)) j row = false) : 0 < (letters s).length ∧ (letters s).getD ((letters s).length - 1) 0 = s[row] := by
  obtain ⟨k, hk, he⟩ := letters_has s row hr
  refine ⟨by omega, ?_⟩
  by_cases e : k + 1 = (letters s).length
  · rw [← e, Nat.add_sub_cancel]; exact he
  · have h1 := h k (by omega)
    have hk2 : k < (bs (letters s)).size := by rw [bs_size]; exact hk
    rw [isLet_at s _ k row hr hk2, bs_letters s k hk2, he] at h1
    simp at h1

set_option maxRecDepth 10000 in
set_option maxHeartbeats 1000000 in
theorem few_at (w : World) (g row : Nat) (s : ByteArray) (h : FewC w g s (bs (letters s))) (hn : s.size ≤ 2000) (hr : row < s.size) : Calls Try.prog 127 #[.pointer (some ⟨g, 0, none⟩), .int .i64 (row : Int)] w fun e w' => e = .returned (.int .u8 ((s[row]).toNat : Int)) ∧ Below w.heap.size w w' := by
  obtain ⟨base, v, xs, h1, h2, h3⟩ := h
  have hlen := letters_le s
  have hpos : 0 < (letters s).length := by
    obtain ⟨k, hk, _⟩ := letters_has s row hr
    omega
  have hlast := letters_last s row hr
  have hsz := bs_size (letters s)
  have HG : ∀ k (h : k < (bs (letters s)).size), (bs (letters s))[k] = (letters s).getD k 0 := bs_letters s
  have HLast : Hid _ := hlast
  clear hlast
  obtain ⟨lt, hlt⟩ : ∃ lt, lt = bs (letters s) := ⟨_, rfl⟩
  rw [← hlt] at h1 h2 h3 hsz HG HLast
  have hl1 : lt.size ≤ 256 := by omega
  have hl0 : 0 < lt.size := by omega
  rw [← hsz] at HLast
  have HGe : Hid _ := HG
  clear HG hsz hlt hlen hpos
  obtain ⟨gr, cap, rfl, hltg, hcell⟩ := own_cells3 h2 hl0
  have hc2 : w.cell? ⟨g, 2, none⟩ = some (.slice (some ⟨gr, 0, none⟩) lt.size cap) := h1.cell 2
  go_enter Try.func127, Try.ntmps127
  go_wp2_with fail
  clear hc2
  go_loopw [14, 6] (fun iv _ wr => ∃ k : Nat, k + 1 ≤ lt.size ∧ iv = .int .i64 (k : Int) ∧ Hid (∀ j, j < k → isLet s lt j row = false) ∧ Below w.heap.size w wr) (fun iv _ _ => lt.size - (intOf iv).toNat)
  case atStart => exact ⟨0, by omega, rfl, fun j hj => by omega, Below.refl _ _⟩
  case round =>
    obtain ⟨k, hk, rfl, HN, hb⟩ := hrel
    have h1r := h1.below hb h1.lt
    have hc1 : wr.cell? ⟨g, 1, none⟩ = some (.string lt) := h1r.cell 1
    have hc2 : wr.cell? ⟨g, 2, none⟩ = some (.slice (some ⟨gr, 0, none⟩) lt.size cap) := h1r.cell 2
    by_cases hlt2 : k + 1 < lt.size
    · obtain ⟨a, b, c, r1, r2, r3, r4⟩ := h3 k (by omega)
      obtain ⟨_, _, _, _, hcell'⟩ := own_cells3 (own_below3 h2 hb) hl0
      obtain ⟨gw, ga, W, rfl, rfl, rfl, r5⟩ := id r4
      rename_i g2 cap2 hv2 _
      obtain ⟨rfl, rfl⟩ : gr = g2 ∧ cap = cap2 := by simpa using hv2
      have c0 := (hcell' _ _ (by omega) r1 (.cells #[] 0)).2
      have c1 := (hcell' _ _ (by omega) r2 (.cells #[] 0)).2
      have c2 := (hcell' _ _ (by omega) r3 (.cells #[] 0)).2
      rw [Nat.mul_comm 3 k] at c0 c1 c2
      go_wp2_with fail
      refine ((r4.below hb).bit (by omega) hr).mono ?_
      rintro e w2 ⟨rfl, hb2⟩
      have hbb := hb.trans (hb2.mono hb.size)
      have hc3 : w2.cell? ⟨g, 1, none⟩ = some (.string lt) := (h1.below hbb h1.lt).cell 1
      by_cases hi : isLet s lt k row = true
      · have he : Hid (((lt[k]).toNat : Int) = ((s[row]).toNat : Int)) := by
          show ((lt[k]).toNat : Int) = _
          rw [isLet_at s lt k row hr (by omega)] at hi
          rw [of_decide_eq_true hi]
        rw [hi]
        go_wp2
        go_ret
        exact ⟨by rw [← he.out]; rfl, hbb⟩
      · have hi' : isLet s lt k row = false := by simpa using hi
        have HN2 : Hid (∀ j, j < k + 1 → isLet s lt j row = false) := by
          intro j hj
          by_cases e : j = k
          · rw [e]; exact hi'
          · exact HN.out j (by omega)
        rw [hi']
        go_wp2
        go_roundw
        case rel => exact ⟨k + 1, by omega, by go_num, HN2, hbb⟩
        case measure => simp [intOf]; omega
    · have hk1 : k = lt.size - 1 := by omega
      have he : Hid (((lt[lt.size - 1]).toNat : Int) = ((s[row]).toNat : Int)) := by
        show ((lt[lt.size - 1]).toNat : Int) = _
        have := (HLast.out (fun j hj => HN.out j (by omega))).2
        rw [HGe.out (lt.size - 1) (by omega), this]
      go_wp2
      go_ret
      exact ⟨by rw [← he.out]; rfl, hb⟩

theorem take_snoc (L : List UInt8) (k : Nat) (hk : k < L.length) : L.take (k + 1) = L.take k ++ [L.getD k 0] := by
  rw [List.take_add_one, List.getElem?_eq_getElem hk, List.getD_eq_getElem?_getD, List.getElem?_eq_getElem hk]; rfl
/-- What the counting comes to, when it ends at k. -/
theorem count_end (s : ByteArray) (c k row : Nat) (hr : row ≤ s.size) (hc : c < 256) (hk : k ≤ (letters s).length) (h1 : ∀ j, j < k → ((letters s).getD j 0).toNat < c) (h2 : k < (letters s).length → c ≤ ((letters s).getD k 0).toNat) : sumL (byN s) row ((letters s).take k) = less (byN s) c row := by
  obtain ⟨hl, he⟩ := lets_take (occ s s.size) c k (by omega) hk h1 h2
  have : (letters s).take k = lets (occ s s.size) c := by
    show (lets (occ s s.size) 256).take k = _
    rw [he, ← hl, List.take_left]
  rw [this, sumL_lets s row c hr (by omega)]
theorem count_none (s : ByteArray) (c k row : Nat) (hr : row ≤ s.size) (hc : c < 256) (hk : k ≤ (letters s).length) (h1 : ∀ j, j < k → ((letters s).getD j 0).toNat < c) (h2 : k < (letters s).length → c < ((letters s).getD k 0).toNat) : cnt (byN s) c row = 0 := by
  cases ho : occ s s.size c
  · exact occ_cnt ho hr
  · exfalso
    obtain ⟨hl, he⟩ := lets_take (occ s s.size) c k (by omega) hk h1 (fun h => Nat.le_of_lt (h2 h))
    obtain ⟨hl1, _⟩ := lets_take (occ s s.size) (c + 1) k (by omega) hk (fun j hj => Nat.lt_succ_of_lt (h1 j hj)) (fun h => h2 h)
    have : (lets (occ s s.size) (c + 1)).length = (lets (occ s s.size) c).length + 1 := by simp only [lets, ho, if_true, List.length_append, List.length_cons, List.length_nil]
    omega
theorem sumL_le (s : ByteArray) (row : Nat) (L : List UInt8) (hL : L.length ≤ 256) : sumL (byN s) row L ≤ 256 * row := by
  have : ∀ L : List UInt8, sumL (byN s) row L ≤ L.length * row := fun L => by
    induction L with
    | nil => simp [sumL]
    | cons x l ih => have := cnt_le (byN s) x.toNat row; simp only [sumL, List.length_cons, Nat.succ_mul]; omega
  exact Nat.le_trans (this L) (Nat.mul_le_mul_right _ hL)

end Go.Proofs.Ytkebgnpifmcmaaa
