import Derived.Test.YtkebgnpifmcmaabGreatHB
import Derived.Test.YtkebgnpifmcmaabGreatHA
namespace Go.Proofs.YtkebgnpifmcmaabGreat
open Go.RowKit

theorem tx_cat (a b : ByteArray) : tx (a ++ b) = tx a ++ tx b := by simp [tx]
theorem tx_head (r : ByteArray) (A : Nat) : tx (r.extract 0 A) = (tx r).take A := by simp [tx]
theorem tx_tail (r : ByteArray) (A : Nat) : tx (r.extract A r.size) = (tx r).drop A := by
  simp only [tx, ByteArray.data_extract, Array.toList_extract]
  rw [List.extract_eq_take_drop, List.take_of_length_le]
  rw [List.length_drop]; simp
theorem tx_split (r : ByteArray) (A : Nat) (h : A < r.size) : tx r = (tx r).take A ++ (tx r).getD A 0 :: (tx r).drop (A + 1) := by
  have h2 : A < (tx r).length := by rw [tx_length]; exact h
  conv => lhs; rw [← List.take_append_drop A (tx r)]
  rw [drop_cons (tx r) A h2]
theorem hd_put (u v y : List UInt8) (a b : UInt8) : hd (u ++ a :: v) y ≤ hd (u ++ b :: v) y + 1 := by
  induction u generalizing y with
  | nil =>
    cases y with
    | nil => simp [hd]
    | cons c y => simp only [List.nil_append, hd]; split <;> split <;> omega
  | cons d u ih =>
    cases y with
    | nil => simp [hd]
    | cons c y => simp only [List.cons_append, hd]; have := ih y; omega
theorem lev_self (x : List UInt8) : lev x x = 0 := Nat.le_zero.1 (lev_le (Ed.refl x))
theorem hd_self (x : List UInt8) : hd x x = 0 := by
  induction x with
  | nil => rfl
  | cons a x ih => simp [hd, ih]

/-- With so many wrong bytes, or edits. -/
def RelW (s : ByteArray) (i : Nat) (r : ByteArray) : Prop := r.size = s.size ∧ hd (tx r) (tx s) ≤ i
def RelE (s : ByteArray) (i : Nat) (r : ByteArray) : Prop := lev (tx r) (tx s) ≤ i
theorem RelW.put {s : ByteArray} (i : Nat) (r : ByteArray) (A : Nat) (x : UInt8) (hA : A < r.size) (_h : r.size ≤ 34) (h : RelW s i r) : RelW s (i + 1) (r.extract 0 A ++ bs [x] ++ r.extract (A + 1) r.size) := by
  refine ⟨?_, ?_⟩
  · rw [← h.1]
    have : (bs [x]).size = 1 := rfl
    simp [ByteArray.size_append, ByteArray.size_extract, this]; omega
  · rw [tx_cat, tx_cat, tx_head, tx_tail, tx_bs, List.append_assoc]
    have h1 := h.2
    rw [tx_split r A hA] at h1
    have := hd_put ((tx r).take A) ((tx r).drop (A + 1)) (tx s) x ((tx r).getD A 0)
    simp only [List.singleton_append]
    omega
theorem RelE.put {s : ByteArray} (i : Nat) (r : ByteArray) (A : Nat) (x : UInt8) (hA : A < r.size) (_h : r.size ≤ 34) (h : RelE s i r) : RelE s (i + 1) (r.extract 0 A ++ bs [x] ++ r.extract (A + 1) r.size) := by
  unfold RelE at h ⊢
  rw [tx_cat, tx_cat, tx_head, tx_tail, tx_bs, List.append_assoc]
  rw [tx_split r A hA] at h
  have h1 := lev_put ((tx r).take A) ((tx r).drop (A + 1)) x ((tx r).getD A 0)
  have h2 := lev_trans ((tx r).take A ++ x :: (tx r).drop (A + 1)) ((tx r).take A ++ (tx r).getD A 0 :: (tx r).drop (A + 1)) (tx s)
  simp only [List.singleton_append]
  omega
theorem RelE.ins {s : ByteArray} (i : Nat) (r : ByteArray) (A : Nat) (x : UInt8) (_hA : A < r.size) (_h : r.size ≤ 34) (h : RelE s i r) : RelE s (i + 1) (r.extract 0 A ++ bs [x] ++ r.extract A r.size) := by
  unfold RelE at h ⊢
  rw [tx_cat, tx_cat, tx_head, tx_tail, tx_bs, List.append_assoc]
  have h0 : tx r = (tx r).take A ++ (tx r).drop A := (List.take_append_drop A (tx r)).symm
  rw [h0] at h
  have h1 := lev_del ((tx r).take A) ((tx r).drop A) x
  have h2 := lev_trans ((tx r).take A ++ x :: (tx r).drop A) ((tx r).take A ++ (tx r).drop A) (tx s)
  simp only [List.singleton_append]
  omega
theorem RelE.del {s : ByteArray} (i : Nat) (r : ByteArray) (A : Nat) (hA : A < r.size) (_h : r.size ≤ 34) (h : RelE s i r) : RelE s (i + 1) (r.extract 0 A ++ r.extract (A + 1) r.size) := by
  unfold RelE at h ⊢
  rw [tx_cat, tx_head, tx_tail]
  rw [tx_split r A hA] at h
  have h1 := lev_ins ((tx r).take A) ((tx r).drop (A + 1)) ((tx r).getD A 0)
  have h2 := lev_trans ((tx r).take A ++ (tx r).drop (A + 1)) ((tx r).take A ++ (tx r).getD A 0 :: (tx r).drop (A + 1)) (tx s)
  omega
/-- The piece, as the text has it. -/
theorem cut_piece (t : ByteArray) (i m : Nat) (hi : i < t.size) (hm : 0 < m) : 0 < (cut (t.extract i t.size) m).size ∧ i + (cut (t.extract i t.size) m).size ≤ t.size ∧ tx (cut (t.extract i t.size) m) = ((tx t).take (i + (cut (t.extract i t.size) m).size)).drop i := by
  have hsz : (t.extract i t.size).size = t.size - i := by simp [ByteArray.size_extract]
  have hdt : ∀ x, ((tx t).take (i + x)).drop i = ((tx t).drop i).take x := fun x => by rw [List.drop_take, Nat.add_sub_cancel_left]
  unfold cut
  split
  · have h2 : ((t.extract i t.size).extract 0 m).size = m := by rw [ByteArray.size_extract]; omega
    rw [h2, tx_head, tx_tail, hdt]
    exact ⟨hm, by omega, rfl⟩
  · rw [hsz, tx_tail, hdt]
    refine ⟨by omega, by omega, ?_⟩
    rw [List.take_of_length_le]
    rw [List.length_drop, tx_length]; omega
theorem planted_wrong {t a : ByteArray} {s : ByteArray} {i k : Nat} (hi : i + s.size ≤ t.size) (hs : tx s = ((tx t).take (i + s.size)).drop i) (h : RelW s k a) : wrP (tx t) (tx a) k i = true := by
  have h1 := hd_df (tx t) (tx a) i a.size (by rw [tx_length]; exact Nat.le_refl _) (by rw [tx_length, h.1]; exact hi)
  have h2 : (tx a).take a.size = tx a := by rw [← tx_length a]; exact List.take_length
  rw [h2, h.1, ← hs] at h1
  simp only [wrP, Bool.and_eq_true, decide_eq_true_eq]
  rw [tx_length, tx_length, h.1, ← h1]
  exact ⟨hi, h.2⟩
theorem planted_edits {t b : ByteArray} {s : ByteArray} {i k : Nat} (hi : i + s.size ≤ t.size) (hs : tx s = ((tx t).take (i + s.size)).drop i) (h : RelE s k b) : neB (tx t) (tx b) k i = true := by
  refine (neB_iff _ _ _ _).2 ⟨i + s.size, by omega, by rw [tx_length]; exact hi, ?_⟩
  rw [← hs]; exact h
theorem filt_has {B : Nat → Bool} {m i : Nat} (hi : i < m) (h : B i = true) : ∃ k, k < (filt B m).length ∧ (i : Int) = ((filt B m).getD k 0 : Int) := by
  obtain ⟨k, hk, he⟩ := List.getElem_of_mem ((mem_filt B m i).2 ⟨hi, h⟩)
  refine ⟨k, hk, ?_⟩
  rw [List.getD_eq_getElem?_getD, List.getElem?_eq_getElem hk, he]; rfl

set_option maxRecDepth 10000 in
set_option maxHeartbeats 4000000 in
theorem planted_walk (a0 : ByteArray) (a1 a2 a3 a4 : Int) (ao : Option Addr) (len cap : Nat) (zs : Nat → Int) (w0 : a0.size ≤ maxLen) (w1 : (Lit.int .i64 a1).wf = true) (w2 : (Lit.int .i64 a2).wf = true) (w3 : (Lit.int .i64 a3).wf = true) (w4 : (Lit.int .i64 a4).wf = true) (w : World) (hlen : len ≤ maxLen)
    (hao : ao = none → len = 0) (hcell : ∀ a, ao = some a → ∀ i, i < len → w.cell? (a.add i) = some (.int .i64 (zs i))) (hzw : ∀ i, i < len → (Lit.int .i64 (zs i)).wf = true) :
    Calls Tryz.prog 6 #[.string a0, .int .i64 a1, .int .i64 a2, .int .i64 a3, .int .i64 a4, .slice ao len cap] w fun e w' => e = .returned (.bool true) ∧ Below w.heap.size w w' := by
  have HN : Hid _ := nearing_any w
  have HSH : Hid (∀ w, Calls Tryz.prog 14 #[.string a0, .int .i64 200] w fun e w' => e = .returned (.string (cut a0 200)) ∧ w' = w) := fun w => short_cut a0 200 w (by decide) w0
  have HBW : Hid (∀ (s : ByteArray) (k : Nat) w', s.size ≤ 30 → k ≤ 4 → Below w.heap.size w w' → Calls Tryz.prog 23 #[.string s, .int .i64 (k : Int), .slice ao len cap, .bool true] w' fun e w2 => (∃ r : ByteArray, e = .returned (.string r) ∧ RelW s k r ∧ r.size ≤ 34) ∧ Below w'.heap.size w' w2) := fun s k w' hs hk hb =>
    bent_any s k ao len cap zs true w' hs hk hlen hao (fun a ha i hi => cell_later' (hcell a ha i hi) hb) hzw (RelW s) ⟨rfl, by rw [hd_self]; exact Nat.le_refl _⟩ RelW.put (fun h => by cases h) (fun h => by cases h) (fun i r h => ⟨h.1, Nat.le_succ_of_le h.2⟩)
  have HBE : Hid (∀ (s : ByteArray) (k : Nat) w', s.size ≤ 30 → k ≤ 4 → Below w.heap.size w w' → Calls Tryz.prog 23 #[.string s, .int .i64 (k : Int), .slice ao len cap, .bool false] w' fun e w2 => (∃ r : ByteArray, e = .returned (.string r) ∧ RelE s k r ∧ r.size ≤ 34) ∧ Below w'.heap.size w' w2) := fun s k w' hs hk hb =>
    bent_any s k ao len cap zs false w' hs hk hlen hao (fun a ha i hi => cell_later' (hcell a ha i hi) hb) hzw (RelE s) (by show lev _ _ ≤ 0; rw [lev_self]; exact Nat.le_refl _) RelE.put (fun _ => RelE.ins) (fun _ => RelE.del) (fun i r h => Nat.le_succ_of_le h)
  have hs := cut_le a0 200
  clear hao hcell hzw hlen
  generalize cut a0 200 = t at *
  go_enter Tryz.func6, Tryz.ntmps6
  go_wp2_with fail
  refine Calls.mono HN.out ?_
  clear HN
  rintro en wa ⟨rfl, hb1⟩
  go_wp2_with fail
  refine Calls.mono (HSH.out wa) ?_
  clear HSH
  rintro en wb ⟨rfl, rfl⟩
  have HIM : Hid _ := image_keep t a1 wb (by omega) w1
  go_wp2_with fail
  refine Calls.mono HIM.out ?_
  clear HIM
  rintro en wc ⟨im, hI, rfl, hb2⟩
  have hb3 := hb1.trans (hb2.mono hb1.size)
  clear hb1 hb2
  have HIMG : Hid (Img im t (1 + pickN a1 64)) := hI
  clear hI
  have hie := isEmpty_size t
  by_cases h0 : t.size = 0
  · rw [decide_eq_true h0] at hie
    clear h0 HIMG HBW HBE
    go_wp2
    go_ret
    exact ⟨rfl, hb3⟩
  · rw [decide_eq_false h0] at hie
    have hpos : 0 < t.size := by omega
    have HPK : Hid (∀ w, Calls Tryz.prog 17 #[.int .i64 a4, .int .i64 5] w fun e w' => e = .returned (.int .i64 (pickN a4 5 : Int)) ∧ w' = w) := fun w => pick_any a4 5 w w4 (by decide) (by decide)
    have hk5 := pickN_lt a4 (n := 5) (by decide)
    generalize pickN a4 5 = k at *
    have HP1 : Hid (∀ w, Calls Tryz.prog 17 #[.int .i64 a2, .int .i64 (t.size : Int)] w fun e w' => e = .returned (.int .i64 (pickN a2 t.size : Int)) ∧ w' = w) := fun w => pick_any a2 t.size w w2 hpos (by omega)
    have hi1 := pickN_lt a2 hpos
    generalize pickN a2 t.size = i at *
    have HP2 : Hid (∀ w, Calls Tryz.prog 17 #[.int .i64 a3, .int .i64 30] w fun e w' => e = .returned (.int .i64 (pickN a3 30 : Int)) ∧ w' = w) := fun w => pick_any a3 30 w w3 (by decide) (by decide)
    have hi2 := pickN_lt a3 (n := 30) (by decide)
    generalize pickN a3 30 = m at *
    have hex : (t.extract i t.size).size ≤ t.size := by simp [ByteArray.size_extract]
    have HS : Hid (∀ w, Calls Tryz.prog 14 #[.string (t.extract i t.size), .int .i64 (1 + (m : Int))] w fun e w' => e = .returned (.string (cut (t.extract i t.size) (1 + m))) ∧ w' = w) := fun w => by
      have := short_cut (t.extract i t.size) (1 + m) w (by omega) (by unfold maxLen; omega)
      rw [Int.natCast_add] at this
      exact this
    have hcl2 := cut_le (t.extract i t.size) (1 + m)
    obtain ⟨hs0, hs1, hs2⟩ := cut_piece t i (1 + m) hi1 (by omega)
    generalize cut (t.extract i t.size) (1 + m) = s at *
    have HS2 : Hid (tx s = ((tx t).take (i + s.size)).drop i) := hs2
    have hii : (i : Int) ≤ (t.size : Int) := by omega
    have hle : i ≤ t.size := by omega
    clear hs2 h0 hex
    go_wp2_with fail
    refine Calls.mono (HPK.out wc) ?_
    clear HPK
    rintro en wd ⟨rfl, rfl⟩
    go_wp2_with fail
    refine Calls.mono (HP1.out _) ?_
    clear HP1
    rintro en wd2 ⟨rfl, rfl⟩
    go_upto_region 10 with fail
    go_quiet (first | (go_at_call 17; exact Calls.quiet_of_same (HP2.out _)) | (go_at_call 14; exact Calls.quiet_of_same (HS.out _)))
    have hb4 := below_drewN hb3 nq
    clear hb3 HP2 HS
    generalize wd2.drewN nq = We at *
    have hbA := hb4.alloc hb4.size (.cells #[.int .i64 (i : Int)] 3)
    have lA : Lst (We.alloc (.cells #[.int .i64 (i : Int)] 3)) (.slice (some ⟨We.heap.size, 0, none⟩) 1 1) 1 (II fun _ => (i : Int)) := ⟨_, _, rfl, fun _ => ⟨We.heap.size, rfl, ⟨#[.int .i64 (i : Int)], heap_alloc_new We _, Nat.le_refl _, fun j hj => by
      obtain rfl : j = 0 := (by omega)
      rfl⟩⟩⟩
    have HB1 : Hid _ := HBW.out s k (We.alloc (.cells #[.int .i64 (i : Int)] 3)) (by omega) (by omega) hbA
    clear HBW hb4
    go_wp2_with fail
    generalize We.alloc (.cells #[.int .i64 (i : Int)] 3) = Wf at *
    generalize We.heap.size = gA at *
    refine Calls.mono HB1.out ?_
    clear HB1
    rintro en wg ⟨⟨a, rfl, hRW, ha34⟩, c1⟩
    have lA := lA.below c1
    have hb5 := hbA.trans (c1.mono hbA.size)
    clear hbA c1
    have hasz := hRW.1
    have hPW : wrP (tx t) (tx a) k i = true := planted_wrong hs1 HS2.out hRW
    have HW : Hid _ := wrong_img HIMG.out a k wg (by omega) (by omega) (by omega)
    have HIN : Hid (∀ j, j < 1 → ∃ x, x < (filt (wrP (tx t) (tx a) k) (t.size + 1)).length ∧ (fun _ => (i : Int)) j = (fun x => ((filt (wrP (tx t) (tx a) k) (t.size + 1)).getD x 0 : Int)) x) := fun j _ => filt_has (by omega) hPW
    have sm1 := filt_small (wrP (tx t) (tx a) k) (t.size + 1) (by omega)
    clear hRW hPW
    go_wp2_with fail
    refine Calls.mono HW.out ?_
    clear HW
    rintro en wh ⟨v, rfl, ho, c2⟩
    obtain ⟨bo, cb, rfl, hbr⟩ := ho.lst
    have lB : Lst wh (.slice bo (filt (wrP (tx t) (tx a) k) (t.size + 1)).length cb) (filt (wrP (tx t) (tx a) k) (t.size + 1)).length (II fun x => ((filt (wrP (tx t) (tx a) k) (t.size + 1)).getD x 0 : Int)) := ⟨bo, cb, rfl, hbr⟩
    have lA := lA.below c2
    have hb6 := hb5.trans (c2.mono hb5.size)
    have HWI : Hid _ := within_true _ _ 1 _ (fun _ => (i : Int)) _ wh (by decide) sm1 lA lB HIN.out
    clear hb5 c2 ho hbr lB HIN
    generalize (filt (wrP (tx t) (tx a) k) (t.size + 1)).length = M1 at *
    go_wp2_with fail
    refine Calls.mono HWI.out ?_
    clear HWI
    rintro en wi ⟨rfl, c3⟩
    have lA := lA.below c3
    have hb7 := hb6.trans (c3.mono hb6.size)
    clear hb6 c3
    have HB2 : Hid _ := HBE.out s k wi (by omega) (by omega) hb7
    clear HBE
    go_wp2_with fail
    refine Calls.mono HB2.out ?_
    clear HB2
    rintro en wj ⟨⟨b, rfl, hRE, hb34⟩, c4⟩
    have lA := lA.below c4
    have hb8 := hb7.trans (c4.mono hb7.size)
    clear hb7 c4
    have hPE : neB (tx t) (tx b) k i = true := planted_edits hs1 HS2.out hRE
    have hieb := isEmpty_size b
    by_cases hok : 0 < b.size ∧ b.size ≤ 30
    · have hb0 : ¬ b.size = 0 := by omega
      rw [decide_eq_false hb0] at hieb
      have db : ¬ (30 : Int) < (b.size : Int) := by omega
      by_cases hkb : b.size ≤ k
      · have HE : Hid _ := edits_bad HIMG.out b k wj hok.1 hok.2 hkb
        clear HIMG hPE hRE lA
        go_wp2_with fail
        refine Calls.mono HE.out ?_
        clear HE
        rintro en wk ⟨rfl, c5⟩
        have hb9 := hb8.trans (c5.mono hb8.size)
        go_wp2
        go_ret
        exact ⟨rfl, hb9⟩
      · have HE : Hid _ := edits_img HIMG.out b k wj hok.2 (by omega) (by omega)
        have HIN : Hid (∀ j, j < 1 → ∃ x, x < (filt (neB (tx t) (tx b) k) (t.size + 1)).length ∧ (fun _ => (i : Int)) j = (fun x => ((filt (neB (tx t) (tx b) k) (t.size + 1)).getD x 0 : Int)) x) := fun j _ => filt_has (by omega) hPE
        have sm2 := filt_small (neB (tx t) (tx b) k) (t.size + 1) (by omega)
        clear HIMG hPE hRE
        go_wp2_with fail
        refine Calls.mono HE.out ?_
        clear HE
        rintro en wk ⟨v2, rfl, ho, c5⟩
        obtain ⟨bo2, cb2, rfl, hbr⟩ := ho.lst
        have lB : Lst wk (.slice bo2 (filt (neB (tx t) (tx b) k) (t.size + 1)).length cb2) (filt (neB (tx t) (tx b) k) (t.size + 1)).length (II fun x => ((filt (neB (tx t) (tx b) k) (t.size + 1)).getD x 0 : Int)) := ⟨bo2, cb2, rfl, hbr⟩
        have lA := lA.below c5
        have hb9 := hb8.trans (c5.mono hb8.size)
        have HWI : Hid _ := within_true _ _ 1 _ (fun _ => (i : Int)) _ wk (by decide) sm2 lA lB HIN.out
        clear hb8 c5 ho hbr lB HIN lA
        generalize (filt (neB (tx t) (tx b) k) (t.size + 1)).length = M2 at *
        go_wp2_with fail
        refine Calls.mono HWI.out ?_
        clear HWI
        rintro en wl ⟨rfl, c6⟩
        have hb10 := hb9.trans (c6.mono hb9.size)
        go_wp2
        go_ret
        exact ⟨rfl, hb10⟩
    · have HE : Hid _ := edits_pat HIMG.out b (k : Int) wj (by unfold maxLen; omega) hok
      clear HIMG hPE hRE lA
      by_cases hb0 : b.size = 0
      · rw [decide_eq_true hb0] at hieb
        have HP : Hid (patE b = 6) := if_pos hb0
        rw [HP.out] at HE
        go_wp2_with fail
        refine Calls.mono HE.out ?_
        clear HE
        rintro en wk ⟨rfl, c5⟩
        have hb9 := hb8.trans (c5.mono hb8.size)
        go_wp2
        go_ret
        exact ⟨rfl, hb9⟩
      · rw [decide_eq_false hb0] at hieb
        have HP : Hid (patE b = 7) := by show patE b = 7; unfold patE; rw [if_neg hb0, if_pos (by omega)]
        rw [HP.out] at HE
        have db : (30 : Int) < (b.size : Int) := by omega
        go_wp2_with fail
        refine Calls.mono HE.out ?_
        clear HE
        rintro en wk ⟨rfl, c5⟩
        have hb9 := hb8.trans (c5.mono hb8.size)
        go_wp2
        go_ret
        exact ⟨rfl, hb9⟩
end Go.Proofs.YtkebgnpifmcmaabGreat
