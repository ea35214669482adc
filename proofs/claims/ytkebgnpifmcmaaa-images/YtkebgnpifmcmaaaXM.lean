import Derived.Test.YtkebgnpifmcmaaaXL
namespace Go.Proofs.Ytkebgnpifmcmaaa
open Go.RowKit

theorem toList_inj {a b : ByteArray} (h : a.toList = b.toList) : a = b := by
  rw [Lib.toList_data, Lib.toList_data] at h
  exact ByteArray.ext (Array.toList_inj.1 h)

set_option maxRecDepth 10000 in
set_option maxHeartbeats 1000000 in
theorem join_no2 (s1 s2 : ByteArray) (e1 e2 rate : Nat) (w : World) (hn : s1.size ≤ 2000) (hn2 : s2.size ≤ 2000) (he1 : e1 ≤ s1.size) (h1 : okBack (tx s1) e1) (h : s2.size < e2 ∨ (e2 ≤ s2.size ∧ ¬ okBack (tx s2) e2)) :
    Calls Try.prog 60 #[.agg #[.string s1, .int .i64 (e1 : Int)], .agg #[.string s2, .int .i64 (e2 : Int)], .int .i64 (rate : Int)] w fun en w' => en = .returned (.tuple #[.pointer none, .bool false]) ∧ Below w.heap.size w w' := by
  have hb0 : Below w.heap.size w ((w.alloc (.cells #[.string s1, .int .i64 (e1 : Int)] 92)).alloc (.cells #[.string s2, .int .i64 (e2 : Int)] 92)) := ((Below.refl _ _).alloc (Nat.le_refl _) _).alloc (by simp) _
  have k2 := Blk.new (w.alloc (.cells #[.string s1, .int .i64 (e1 : Int)] 92)) 92 #[.string s2, .int .i64 (e2 : Int)]
  rw [show (w.alloc (.cells #[.string s1, .int .i64 (e1 : Int)] 92)).heap.size = w.heap.size + 1 from by simp] at k2
  have HA : Hid (∀ w, Calls Try.prog 40 #[.string s1, .int .i64 (e1 : Int)] w fun en w' => en = .returned (.tuple #[.string (bs (backText (tx s1) e1)), .bool true]) ∧ Below w.heap.size w w') := fun w =>
    (restoreIn_any s1 e1 w hn he1).mono (fun en w' hh => by
        rcases hh.1 with hx | hx
        · exact ⟨hx.2, hh.2⟩
        · exact absurd h1 hx.1)
  have H : Hid (∀ w, Calls Try.prog 40 #[.string s2, .int .i64 (e2 : Int)] w fun en w' => en = .returned (.tuple #[.string ByteArray.empty, .bool false]) ∧ Below w.heap.size w w') := fun w => by
    rcases h with h | ⟨h, h'⟩
    · exact (restoreIn_out s2 e2 w hn2 (.inr (by omega))).mono (fun en w' h => ⟨h.1, h.2 ▸ Below.refl _ _⟩)
    · exact (restoreIn_any s2 e2 w hn2 h).mono (fun en w' hh => by
        rcases hh.1 with hx | hx
        · exact absurd hx.1 h'
        · exact ⟨hx.2, hh.2⟩)
  clear h h1
  go_enter Try.func60, Try.ntmps60
  go_wp2_with fail
  refine (HA.out _).mono ?_
  clear HA
  rintro en w1 ⟨rfl, hb1⟩
  have k21 := k2.below hb1 (by simp)
  have hc0 : w1.cell? ⟨w.heap.size + 1, 0, none⟩ = some (.string s2) := k21.cell 0
  have hc1 : w1.cell? ⟨w.heap.size + 1, 1, none⟩ = some (.int .i64 (e2 : Int)) := k21.cell 1
  have hb01 := hb0.trans (hb1.mono (by simp; omega))
  clear hb0 hb1 k2
  go_wp2_with fail
  refine (H.out _).mono ?_
  clear H
  rintro en w2 ⟨rfl, hb2⟩
  go_wp2
  go_ret2
  exact ⟨rfl, hb01.trans (hb2.mono hb01.size)⟩

set_option maxRecDepth 10000 in
set_option maxHeartbeats 1000000 in
theorem join_ok (s1 s2 : ByteArray) (e1 e2 rate : Nat) (f : Nat → Nat) (w : World) (hn : s1.size ≤ 2000) (hn2 : s2.size ≤ 2000) (he1 : e1 ≤ s1.size) (he2 : e2 ≤ s2.size) (h1 : okBack (tx s1) e1) (h2 : okBack (tx s2) e2) (hr0 : 0 < rate) (hF : IsSA (backText (tx s1) e1) f) :
    Calls Try.prog 60 #[.agg #[.string s1, .int .i64 (e1 : Int)], .agg #[.string s2, .int .i64 (e2 : Int)], .int .i64 (rate : Int)] w fun en w' =>
      ((backText (tx s2) e2 = (backText (tx s1) e1).reverse ∧ ∃ g, en = .returned (.tuple #[.pointer (some ⟨g, 0, none⟩), .bool true]) ∧ IndexQ w' g s1 e1 s2 e2 rate f) ∨
        (backText (tx s2) e2 ≠ (backText (tx s1) e1).reverse ∧ en = .returned (.tuple #[.pointer none, .bool false]))) ∧ Below w.heap.size w w' := by
  have hb0 : Below w.heap.size w ((w.alloc (.cells #[.string s1, .int .i64 (e1 : Int)] 92)).alloc (.cells #[.string s2, .int .i64 (e2 : Int)] 92)) := ((Below.refl _ _).alloc (Nat.le_refl _) _).alloc (by simp) _
  have k1 := (Blk.new w 92 #[.string s1, .int .i64 (e1 : Int)]).alloc (.cells #[.string s2, .int .i64 (e2 : Int)] 92)
  have k2 := Blk.new (w.alloc (.cells #[.string s1, .int .i64 (e1 : Int)] 92)) 92 #[.string s2, .int .i64 (e2 : Int)]
  rw [show (w.alloc (.cells #[.string s1, .int .i64 (e1 : Int)] 92)).heap.size = w.heap.size + 1 from by simp] at k2
  have HA : Hid (∀ w, Calls Try.prog 40 #[.string s1, .int .i64 (e1 : Int)] w fun en w' => en = .returned (.tuple #[.string (bs (backText (tx s1) e1)), .bool true]) ∧ Below w.heap.size w w') := fun w =>
    (restoreIn_any s1 e1 w hn he1).mono (fun en w' hh => by
        rcases hh.1 with hx | hx
        · exact ⟨hx.2, hh.2⟩
        · exact absurd h1 hx.1)
  have H : Hid (∀ w, Calls Try.prog 40 #[.string s2, .int .i64 (e2 : Int)] w fun en w' => en = .returned (.tuple #[.string (bs (backText (tx s2) e2)), .bool true]) ∧ Below w.heap.size w w') := fun w =>
    (restoreIn_any s2 e2 w hn2 he2).mono (fun en w' hh => by
        rcases hh.1 with hx | hx
        · exact ⟨hx.2, hh.2⟩
        · exact absurd h2 hx.1)
  have HRW : Hid (∀ w, Calls Try.prog 56 #[.string s1, .int .i64 (e1 : Int)] w fun en w' => ∃ g cap, en = .returned (.tuple #[.slice (some ⟨g, 0, none⟩) (s1.size + 1) cap, .bool true]) ∧ w.heap.size ≤ g ∧ Row w' g 3 (s1.size + 1) (IN (wayRow (tx s1) e1)) ∧ Below w.heap.size w w') := fun w =>
    (rowsIn_any s1 e1 w hn he1).mono (fun en w' hh => by
        rcases hh.1 with ⟨_, g, cap, q1, q2, q3, q4, q5⟩ | hx
        · exact ⟨g, cap, q1, q4, q5, hh.2⟩
        · exact absurd h1 hx.1)
  have hway := wayRow_sa (by rw [tx_length]; exact he1) h1 hF
  rw [tx_length] at hway
  have HW : Hid _ := hway
  have HV : Hid (revS (bs (backText (tx s1) e1)) = bs (backText (tx s1) e1).reverse) := by show revS (bs (backText (tx s1) e1)) = _; rw [revS, tx_bs]
  have htl : (bs (backText (tx s1) e1)).size ≤ 2000 := by rw [bs_size, backText_length, tx_length]; exact hn
  clear hway h1 h2 hF
  generalize hT1 : bs (backText (tx s1) e1) = T1 at *
  clear hT1
  go_enter Try.func60, Try.ntmps60
  go_wp2_with fail
  refine (HA.out _).mono ?_
  clear HA
  rintro en w1 ⟨rfl, hb1⟩
  have k21 := k2.below hb1 (by simp)
  have k11 := k1.below hb1 (by simp; omega)
  have hc0 : w1.cell? ⟨w.heap.size + 1, 0, none⟩ = some (.string s2) := k21.cell 0
  have hc1 : w1.cell? ⟨w.heap.size + 1, 1, none⟩ = some (.int .i64 (e2 : Int)) := k21.cell 1
  have hb01 := hb0.trans (hb1.mono (by simp; omega))
  clear hb0 hb1 k2 k1
  go_wp2_with fail
  refine (H.out _).mono ?_
  clear H
  rintro en w2 ⟨rfl, hb2⟩
  have k22 := k21.below hb2 k21.lt
  have k12 := k11.below hb2 k11.lt
  have hb02 := hb01.trans (hb2.mono hb01.size)
  clear hb01 hb2 k21 k11 hc0 hc1
  go_wp2_with fail
  refine (reversed_any T1 w2 htl).mono ?_
  rintro en w3 ⟨rfl, hb3⟩
  rw [HV.out]
  have k23 := k22.below hb3 k22.lt
  have k13 := k12.below hb3 k12.lt
  have hb03 := hb02.trans (hb3.mono hb02.size)
  clear hb02 hb3 k22 k12 HV
  by_cases heq : backText (tx s2) e2 = (backText (tx s1) e1).reverse
  · rw [← heq]
    have HEQ : Hid _ := heq
    clear heq
    generalize bs (backText (tx s2) e2) = T2 at *
    have hc0 : w3.cell? ⟨w.heap.size, 0, none⟩ = some (.string s1) := k13.cell 0
    have hc1 : w3.cell? ⟨w.heap.size, 1, none⟩ = some (.int .i64 (e1 : Int)) := k13.cell 1
    go_wp2_with fail
    refine (HRW.out w3).mono ?_
    clear HRW
    rintro en w4 ⟨gr, cap, rfl, hgr, hrow, hb4⟩
    have k24 := k23.below hb4 k23.lt
    have k14 := k13.below hb4 k13.lt
    have hb04 := hb03.trans (hb4.mono hb03.size)
    clear hb03 hb4 k23 k13 hc0 hc1 hgr
    go_upto_region 8 with fail
    obtain ⟨G, hG⟩ : ∃ G, G = w.heap.size := ⟨_, rfl⟩
    have HG : Hid (G = w.heap.size) := hG
    rw [← hG] at k24 k14 hb04 ⊢
    clear hG
    have k1d : Blk w4.drew G 92 #[.string s1, .int .i64 (e1 : Int)] := k14
    have k2d : Blk w4.drew (G + 1) 92 #[.string s2, .int .i64 (e2 : Int)] := k24
    have hrd : Row w4.drew gr 3 (s1.size + 1) (IN (wayRow (tx s1) e1)) := hrow
    have hbd : Below G w w4.drew := hb04.drew
    have hc10 : w4.cell? ⟨G, 0, none⟩ = some (.string s1) := k14.cell 0
    have hc11 : w4.cell? ⟨G, 1, none⟩ = some (.int .i64 (e1 : Int)) := k14.cell 1
    have hc20 : w4.cell? ⟨G + 1, 0, none⟩ = some (.string s2) := k24.cell 0
    have hc21 : w4.cell? ⟨G + 1, 1, none⟩ = some (.int .i64 (e2 : Int)) := k24.cell 1
    clear k14 k24 hrow hb04
    go_region_law (first
      | (refine step_calls (args := #[.agg #[.string s1, .int .i64 (e1 : Int)]]) rfl rfl enterSideOf (by simp [Act.eval]) (sideOf_any s1 e1 w4.drew hn) ?_; rintro en w5 ⟨c1, rfl, hct1, hb5⟩; obtain ⟨t1, x1, rfl⟩ := hct1.form; refine ⟨_, rfl, ?_⟩; have hd20 : w5.cell? ⟨G + 1, 0, none⟩ = some (.string s2) := (k2d.below hb5 k2d.lt).cell 0; have hd21 : w5.cell? ⟨G + 1, 1, none⟩ = some (.int .i64 (e2 : Int)) := (k2d.below hb5 k2d.lt).cell 1)
      | (refine step_calls (args := #[.agg #[.string s2, .int .i64 (e2 : Int)]]) rfl rfl enterSideOf (by simp [Act.eval]) (sideOf_any s2 e2 w5 hn2) ?_; rintro en w6 ⟨c2, rfl, hct2, hb6⟩; obtain ⟨t2, x2, rfl⟩ := hct2.form; refine ⟨_, rfl, ?_⟩; have hr6 := (hrd.below hb5 hrd.lt).below hb6 (Nat.lt_of_lt_of_le hrd.lt hb5.size))
      | (refine step_calls (args := #[.slice (some ⟨gr, 0, none⟩) (s1.size + 1) cap, .int .i64 (rate : Int)]) rfl rfl enterKeep (by simp [Act.eval]) (keep_any gr (s1.size + 1) cap rate (wayRow (tx s1) e1) f w6 (by omega) hr0 HW.out.1 HW.out.2.1 HW.out.2.2.1 HW.out.2.2.2 hr6) ?_; rintro en w7 ⟨a7, b7, c7, pl, rfl, hbr7, hown7, hb7⟩; refine ⟨_, rfl, ?_⟩))
    all_goals go_wp2
    all_goals
      have hG0 : G ≤ w4.drew.heap.size := Nat.le_of_lt k1d.lt
      have hq5 : Below G w w5 := hbd.trans (hb5.mono hG0)
      have hG5 : G ≤ w5.heap.size := Nat.le_trans hG0 hb5.size
      have hq6 : Below G w w6 := hq5.trans (hb6.mono hG5)
      have hG6 : G ≤ w6.heap.size := Nat.le_trans hG5 hb6.size
      have hq7 : Below G w w7 := hq6.trans (hb7.mono hG6)
      have hG7 : G ≤ w7.heap.size := Nat.le_trans hG6 hb7.size
      have hA := fun o => (Below.refl w7.heap.size w7).alloc (Nat.le_refl _) o
    all_goals go_ret2
    all_goals exact ⟨.inl ⟨HEQ.out, w7.heap.size, rfl, _, _, _, _, _, _, _, Blk.new w7 _ _, ((hct1.below hb6).below hb7).below (hA _), (hct2.below hb7).below (hA _), hbr7.below (hA _), own_below3 hown7 (hA _)⟩, by rw [← HG.out]; exact hq7.alloc hG7 _⟩
  · have hne : ((bs (backText (tx s2) e2)).toList == (bs (backText (tx s1) e1).reverse).toList) = false := by
      rw [beq_eq_false_iff_ne]
      exact fun h => heq (bs_inj (toList_inj h))
    have HNE : Hid _ := heq
    clear heq
    generalize bs (backText (tx s2) e2) = T2 at *
    generalize bs (backText (tx s1) e1).reverse = T3 at *
    go_wp2
    go_ret2
    exact ⟨.inr ⟨HNE.out, rfl⟩, hb03⟩

/-- An index of a text, in memory. -/
def IndexP (w : World) (g : Nat) (t : List UInt8) (rate : Nat) : Prop :=
  ∃ f f2, IsSA t f ∧ IsSA t.reverse f2 ∧ IndexQ w g (bs (pre t f (t.length + 1))) (endOf f (t.length + 1)) (bs (pre t.reverse f2 (t.length + 1))) (endOf f2 (t.length + 1)) rate f

set_option maxRecDepth 10000 in
set_option maxHeartbeats 400000 in
theorem indexOf_any (s : ByteArray) (rate : Nat) (w : World) (hn : s.size ≤ 2000) (hr0 : 0 < rate) :
    Calls Try.prog 43 #[.string s, .int .i64 (rate : Int)] w fun en w' => ∃ g, en = .returned (.pointer (some ⟨g, 0, none⟩)) ∧ IndexP w' g (tx s) rate ∧ Below w.heap.size w w' := by
  go_enter Try.func43, Try.ntmps43
  go_wp2_with fail
  refine (transformed_any s _ hn).mono ?_
  rintro en w1 ⟨f, hf, rfl, hb1⟩
  go_wp2_with fail
  refine (reversed_any s _ hn).mono ?_
  rintro en w2 ⟨rfl, hb2⟩
  have hb12 := hb1.trans (hb2.mono hb1.size)
  go_wp2_with fail
  refine (transformed_any (revS s) _ (by rw [revS_size]; exact hn)).mono ?_
  rintro en w3 ⟨f2, hf2, rfl, hb3⟩
  have hb13 := hb12.trans (hb3.mono hb12.size)
  rw [revS_size, tx_revS] at *
  clear hb12 hb1 hb2 hb3
  have hl := tx_length s
  have hl1 := bwt_length hf
  have hl2 := bwt_length hf2
  have q1 := bwt_ok hf
  have q2 := bwt_ok hf2
  have q3 := bwt_back hf
  have q4 := bwt_back hf2
  rw [List.length_reverse] at hl2 q2 q4
  rw [hl] at hl1 hl2 q1 q2 q3 q4
  have e1 := (sa_end hf).1
  have e2 := (sa_end hf2).1
  rw [List.length_reverse] at e2
  rw [hl] at e1 e2
  go_wp2_with fail
  refine (join_ok (bs (pre (tx s) f (s.size + 1))) (bs (pre (tx s).reverse f2 (s.size + 1))) (endOf f (s.size + 1)) (endOf f2 (s.size + 1)) rate f w3 (by rw [bs_size, hl1]; exact hn) (by rw [bs_size, hl2]; exact hn) (by rw [bs_size, hl1]; exact e1) (by rw [bs_size, hl2]; exact e2) (by rw [tx_bs]; exact q1) (by rw [tx_bs]; exact q2) hr0 (by rw [tx_bs, q3]; exact hf)).mono ?_
  rintro en w4 ⟨h, hb4⟩
  rw [tx_bs, tx_bs, q3, q4] at h
  rcases h with ⟨_, g, rfl, hI⟩ | ⟨h, _⟩
  · clear q1 q2 q3 q4 e1 e2 hl1 hl2
    go_wp2
    go_ret
    exact ⟨g, rfl, ⟨f, f2, hf, hf2, by rw [hl]; exact hI⟩, hb13.trans (hb4.mono hb13.size)⟩
  · exact absurd rfl h
end Go.Proofs.Ytkebgnpifmcmaaa
