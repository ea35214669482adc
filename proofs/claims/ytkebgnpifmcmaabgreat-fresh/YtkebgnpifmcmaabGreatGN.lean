import Derived.Test.YtkebgnpifmcmaabGreatGH
import Derived.Test.YtkebgnpifmcmaabGreatGL
namespace Go.Proofs.YtkebgnpifmcmaabGreat
open Go.RowKit

set_option maxRecDepth 10000 in
set_option maxHeartbeats 1000000 in
theorem interval_any {w : World} {g off : Nat} {t : List UInt8} {f : Nat → Nat} (h : SideT w g off t f) (p : ByteArray) (hp : p.size ≤ 2000) :
    Calls Tryz.prog 39 #[.pointer (some ⟨g, off, none⟩), .string p] w fun en w' => en = .returned (.tuple #[.int .i64 (LO t (tx p) : Int), .int .i64 (HI t (tx p) : Int)]) ∧ Below w.heap.size w w' := by
  have HRW : Hid _ := side_rowsT h
  have HNW : Hid (∀ w', Below w.heap.size w w' → ∀ (P : List UInt8) (b : UInt8), Calls Tryz.prog 64 #[.pointer (some ⟨g, off, none⟩), .int .i64 (LO t P : Int), .int .i64 (HI t P : Int), .int .u8 (b.toNat : Int)] w' fun en w2 => ∃ z : Int, en = .returned (.tuple #[.int .i64 (LO t (b :: P) : Int), .int .i64 (HI t (b :: P) : Int), .int .i64 z]) ∧ Below w'.heap.size w' w2) := fun w' hb P b => by
    refine (side_narrow (h.below hb) (LO t P) (HI t P) b.toNat b.toNat_lt (LO_le t P) (HI_le t P)).mono ?_
    rintro en w2 ⟨rfl, hb2⟩
    exact ⟨_, by rw [← LO_cons h.1, ← HI_cons h.1], hb2⟩
  have hn := h.2.1
  have HNIL : Hid ((LO t ((tx p).drop p.size) : Int) = 0 ∧ (HI t ((tx p).drop p.size) : Int) = ((t.length + 1 : Nat) : Int)) := by
    show _ ∧ _
    rw [List.drop_of_length_le (by rw [tx_length]; exact Nat.le_refl _), LO_nil, HI_nil]
    exact ⟨rfl, rfl⟩
  have HZ : Hid ((tx p).drop 0 = tx p) := List.drop_zero
  have HCON : Hid (∀ k (hk : k < p.size), (tx p).drop k = p[k] :: (tx p).drop (k + 1)) := fun k hk => by rw [drop_cons (tx p) k (by rw [tx_length]; exact hk), tx_getD p k hk]
  clear h
  generalize hP : tx p = P at *
  clear hP
  go_enter Tryz.func39, Tryz.ntmps39
  go_wp2_with fail
  refine Calls.mono HRW.out ?_
  clear HRW
  rintro en w1 ⟨rfl, rfl⟩
  go_wp2_with fail
  go_loopw [4, 5, 6] (fun lo hi i wr => ∃ k : Nat, k ≤ p.size ∧ i = .int .i64 ((k : Int) - 1) ∧ lo = .int .i64 (LO t (P.drop k) : Int) ∧ hi = .int .i64 (HI t (P.drop k) : Int) ∧ Below w1.heap.size w1 wr) (fun _ _ i _ => ((intOf i) + 1).toNat)
  case atStart => exact ⟨p.size, Nat.le_refl _, rfl, by rw [HNIL.out.1], by rw [HNIL.out.2]; go_num, Below.refl _ _⟩
  case round =>
    clear HNIL
    obtain ⟨k, hk, rfl, rfl, rfl, hb⟩ := hrel
    cases k with
    | zero =>
      rw [HZ.out]
      clear HNW HCON HZ
      have d1 : decide ((0 : Int) ≤ ((0 : Nat) : Int) - 1) = false := by decide
      go_wp2
      go_ret2
      exact ⟨rfl, hb⟩
    | succ k =>
      have hidx : k < p.size := by omega
      have e0 : (((k + 1 : Nat) : Int) - 1) = (k : Int) := by omega
      rw [e0]
      have hby := (p[k]).toNat_lt
      have HC : Hid _ := HNW.out wr hb (P.drop (k + 1)) p[k]
      have HDR : Hid (P.drop k = p[k] :: P.drop (k + 1)) := HCON.out k hidx
      clear HNW HCON HZ
      go_wp2_with fail
      refine Calls.mono HC.out ?_
      clear HC
      rintro en w2 ⟨z, rfl, hb2⟩
      have hb3 := hb.trans (hb2.mono hb.size)
      clear hb hb2
      rw [← HDR.out]
      clear HDR
      go_wp2
      go_roundw
      case rel => exact ⟨k, by omega, by go_num, rfl, rfl, hb3⟩
      case measure => simp [intOf]
end Go.Proofs.YtkebgnpifmcmaabGreat

namespace Go.Proofs.YtkebgnpifmcmaabGreat
open Go.RowKit

theorem enterOnes (args : Array Value) (w : World) : (callFunc 132 args).run Tryz.prog w = .ok (.enter 132 args) w := Go.MuLone.run_callFunc_enter (P := Tryz.prog) Tryz.func132 (by kernel_rfl) rfl args w
theorem enterBit (args : Array Value) (w : World) : (callFunc 131 args).run Tryz.prog w = .ok (.enter 131 args) w := Go.MuLone.run_callFunc_enter (P := Tryz.prog) Tryz.func131 (by kernel_rfl) rfl args w

theorem keptL_len (f : Nat → Nat) (rate k : Nat) : (keptL f rate k).length = cntB (isK f rate) k := by
  induction k with
  | zero => rfl
  | succ k ih =>
    simp only [keptL, List.length_append, cntB, ih]
    cases h : isK f rate k <;> simp
theorem keptL_get (f : Nat → Nat) (rate row : Nat) (hk : isK f rate row = true) : ∀ n, row < n → (keptL f rate n)[cntB (isK f rate) row]? = some (f row) := by
  intro n
  induction n with
  | zero => intro h; omega
  | succ n ih =>
    intro h
    simp only [keptL]
    by_cases e : row = n
    · subst e
      rw [List.getElem?_append_right (by rw [keptL_len]; exact Nat.le_refl _), keptL_len, Nat.sub_self, hk]; rfl
    · have := ih (by omega)
      have hlt := (List.getElem?_eq_some_iff.1 this).1
      rw [List.getElem?_append_left hlt]; exact this

/-- The index's cells, and what lies behind them. -/
theorem IxT.kept {w : World} {g : Nat} {t : List UInt8} {rate : Nat} {f f2 : Nat → Nat} (h : IxT w g t rate f f2) :
    ∃ c1 c2 gw ga gp cp, Blk w g 74 #[c1, .int .i64 (endOf f (t.length + 1) : Int), c2, .int .i64 (endOf f2 (t.length + 1) : Int), .int .i64 (rate : Int), .int .i64 ((t.length + 1 : Nat) : Int), .slice (some ⟨gw, 0, none⟩) ((t.length + 1) / 64 + 1) ((t.length + 1) / 64 + 1), .slice (some ⟨ga, 0, none⟩) ((t.length + 1) / 64 + 1) ((t.length + 1) / 64 + 1), .slice (some ⟨gp, 0, none⟩) (keptL f rate (t.length + 1)).length cp] ∧
      BR w (.int .i64 ((t.length + 1 : Nat) : Int)) (.slice (some ⟨gw, 0, none⟩) ((t.length + 1) / 64 + 1) ((t.length + 1) / 64 + 1)) (.slice (some ⟨ga, 0, none⟩) ((t.length + 1) / 64 + 1) ((t.length + 1) / 64 + 1)) (t.length + 1) (isK f rate) ∧
      Row w gp 3 (keptL f rate (t.length + 1)).length (IN fun j => (keptL f rate (t.length + 1)).getD j 0) := by
  obtain ⟨h1, h2, h3, h4, h5, c1, c2, m0, m1, m2, pl, base, hk, hC1, hC2, hBR, hown⟩ := h
  have hs := (first_str h1 rfl 0).1
  rw [hs] at hBR hown
  obtain ⟨gw, ga, W, rfl, rfl, rfl, r4, r5, r6⟩ := id hBR
  have hpos : 0 < (keptL f rate (t.length + 1)).length := by
    have he := sa_end h1
    have hk0 : isK f rate (endOf f (t.length + 1)) = true := by unfold isK; rw [he.2]; simp
    have := keptL_get f rate _ hk0 (t.length + 1) (by omega)
    have := (List.getElem?_eq_some_iff.1 this).1
    omega
  rcases hown.2 with ⟨_, h0⟩ | ⟨gp, cp, cur, hv, hb, hg, hnc, hcm, hcs, htake⟩
  · omega
  · subst hv
    exact ⟨c1, c2, gw, ga, gp, cp, hk, hBR, Row.owned hown (fun j hj => by simp [NL, IN, List.getD_eq_getElem?_getD, hj])⟩

set_option maxRecDepth 10000 in
set_option maxHeartbeats 2000000 in
theorem kept_at {w : World} {g : Nat} {t : List UInt8} {rate : Nat} {f f2 : Nat → Nat} (h : IxT w g t rate f f2) (row : Nat) (hr : row ≤ t.length) :
    Calls Tryz.prog 93 #[.pointer (some ⟨g, 5, none⟩), .int .i64 (row : Int)] w fun e w' => e = .returned (.tuple #[.int .i64 ((if isK f rate row then f row else 0 : Nat) : Int), .bool (isK f rate row)]) ∧ Below w.heap.size w w' := by
  obtain ⟨c1, c2, gw, ga, gp, cp, hk, hBR, hrow⟩ := h.kept
  have hn := h.2.2.1
  have hfr := h.1.le row hr
  have hm0 : w.cell? ⟨g, 5, none⟩ = some (.int .i64 ((t.length + 1 : Nat) : Int)) := hk.cell 5
  have hm1 : w.cell? ⟨g, 6, none⟩ = some (.slice (some ⟨gw, 0, none⟩) ((t.length + 1) / 64 + 1) ((t.length + 1) / 64 + 1)) := hk.cell 6
  have hm2 : w.cell? ⟨g, 7, none⟩ = some (.slice (some ⟨ga, 0, none⟩) ((t.length + 1) / 64 + 1) ((t.length + 1) / 64 + 1)) := hk.cell 7
  have HBT : Hid _ := hBR.bit (i := row) (by omega) (by omega)
  have HBN : Hid (∀ w', Below w.heap.size w w' → Calls Tryz.prog 132 #[.agg #[.int .i64 ((t.length + 1 : Nat) : Int), .slice (some ⟨gw, 0, none⟩) ((t.length + 1) / 64 + 1) ((t.length + 1) / 64 + 1), .slice (some ⟨ga, 0, none⟩) ((t.length + 1) / 64 + 1) ((t.length + 1) / 64 + 1)], .int .i64 (row : Int)] w' fun e w2 => e = .returned (.int .i64 ((cntB (isK f rate) row : Nat) : Int)) ∧ Below w'.heap.size w' w2) := fun w' hb => (hBR.below hb).ones (by omega) (by omega)
  clear h
  cases hK : isK f rate row with
  | false =>
    rw [hK] at HBT
    clear HBN hBR hrow hK
    go_enter Tryz.func93, Tryz.ntmps93
    go_wp2_with fail
    refine Calls.mono HBT.out ?_
    clear HBT
    rintro en w1 ⟨rfl, hb1⟩
    go_wp2
    go_ret2
    exact ⟨rfl, hb1⟩
  | true =>
    rw [hK] at HBT
    have hget := keptL_get f rate row hK (t.length + 1) (by omega)
    have hlt := (List.getElem?_eq_some_iff.1 hget).1
    have hgd : (keptL f rate (t.length + 1)).getD (cntB (isK f rate) row) 0 = f row := by rw [List.getD_eq_getElem?_getD, hget]; rfl
    have HCELL : Hid (∀ w', Below w.heap.size w w' → w'.cell? ⟨gp, cntB (isK f rate) row, none⟩ = some (.int .i64 (f row : Int))) := fun w' hb => by
      have := (hrow.below hb hrow.lt).cell hlt
      rw [IN_at, hgd] at this
      exact this
    have hll := keptL_length f rate (t.length + 1)
    have hcl := cntB_le (isK f rate) row
    clear hBR hrow hget hgd hK
    generalize cntB (isK f rate) row = C at *
    generalize (keptL f rate (t.length + 1)).length = M at *
    generalize f row = FR at *
    go_enter Tryz.func93, Tryz.ntmps93
    go_wp2_with fail
    refine Calls.mono HBT.out ?_
    clear HBT
    rintro en w1 ⟨rfl, hb1⟩
    have hk1 := hk.below hb1 hk.lt
    have hm0 : w1.cell? ⟨g, 5, none⟩ = some (.int .i64 ((t.length + 1 : Nat) : Int)) := hk1.cell 5
    have hm1 : w1.cell? ⟨g, 6, none⟩ = some (.slice (some ⟨gw, 0, none⟩) ((t.length + 1) / 64 + 1) ((t.length + 1) / 64 + 1)) := hk1.cell 6
    have hm2 : w1.cell? ⟨g, 7, none⟩ = some (.slice (some ⟨ga, 0, none⟩) ((t.length + 1) / 64 + 1) ((t.length + 1) / 64 + 1)) := hk1.cell 7
    have hm3 : w1.cell? ⟨g, 8, none⟩ = some (.slice (some ⟨gp, 0, none⟩) M cp) := hk1.cell 8
    have HON : Hid _ := HBN.out w1.drew hb1.drew
    have hk1' : Blk w1.drew g 74 _ := hk1
    have hb1' := hb1.drew
    clear HBN hk
    go_upto_region 3 with fail
    go_region_law (first
      | (refine step_calls (args := #[.agg #[.int .i64 ((t.length + 1 : Nat) : Int), .slice (some ⟨gw, 0, none⟩) ((t.length + 1) / 64 + 1) ((t.length + 1) / 64 + 1), .slice (some ⟨ga, 0, none⟩) ((t.length + 1) / 64 + 1) ((t.length + 1) / 64 + 1)], .int .i64 (row : Int)]) rfl rfl enterOnes (by simp [Act.eval]) HON.out ?_; rintro en w2 ⟨rfl, hb2⟩; refine ⟨_, rfl, ?_⟩; have hb3 := hb1'.trans (hb2.mono hb1'.size); have hc := HCELL.out w2 hb3; have hm3' : w2.cell? ⟨g, 8, none⟩ = some (.slice (some ⟨gp, 0, none⟩) M cp) := (hk1'.below hb2 hk1'.lt).cell 8))
    all_goals go_wp2
    all_goals go_ret2
    all_goals exact ⟨rfl, hb3⟩
end Go.Proofs.YtkebgnpifmcmaabGreat

namespace Go.Proofs.YtkebgnpifmcmaabGreat
open Go.RowKit

theorem side_aheadT {w : World} {g off : Nat} {t : List UInt8} {f : Nat → Nat} (h : SideT w g off t f) (row : Nat) (hr : row ≤ t.length) (hpos : 0 < f row) :
    Calls Tryz.prog 94 #[.pointer (some ⟨g, off, none⟩), .int .i64 (row : Int)] w fun en w' => ∃ (c : Int) (r : Nat), r ≤ t.length ∧ f r + 1 = f row ∧ en = .returned (.tuple #[.int .u8 c, .int .i64 (r : Int)]) ∧ Below w.heap.size w w' := by
  obtain ⟨F, hn, h⟩ := h
  have hs := (first_str F rfl 0).1
  have he := (sa_end F).1
  have hne : row ≠ endOf f (t.length + 1) := fun e => by
    have := (sa_zero F row hr).2 e; omega
  have hat : idx (endOf f (t.length + 1)) row < t.length := idx_lt hr he hne
  refine (side_ahead w g off _ row _ h (by rw [hs]; exact hn) (by rw [hs]; exact he) (by rw [hs]; exact hr) hne (by rw [hs]; exact hat)).mono ?_
  rintro en w' ⟨rfl, hb⟩
  have hcg : ∀ m, m ≤ t.length → ∀ x, cnt (byN (bs (pre t f (t.length + 1)))) x m = cnt (bN (pre t f (t.length + 1))) x m := fun m hm x =>
    cnt_congr (fun i hi => by rw [byN_tx _ _ (by rw [hs]; omega), tx_bs]) x
  have hbi : byN (bs (pre t f (t.length + 1))) (idx (endOf f (t.length + 1)) row) = bN (pre t f (t.length + 1)) (idx (endOf f (t.length + 1)) row) := by
    rw [byN_tx _ _ (by rw [hs]; exact hat), tx_bs]
  have hrk : rk (byN (bs (pre t f (t.length + 1)))) t.length (idx (endOf f (t.length + 1)) row) = rk (bN (pre t f (t.length + 1))) t.length (idx (endOf f (t.length + 1)) row) := by
    unfold rk
    rw [hbi, hcg _ (Nat.le_of_lt hat), less_of_cnt (hcg t.length (Nat.le_refl _))]
  have hl := lf F _ hat
  rw [unidx_idx hne] at hl
  have hlt := rk_lt (bN (pre t f (t.length + 1))) t.length _ hat
  have e : rk (byN (bs (pre t f (t.length + 1)))) (bs (pre t f (t.length + 1))).size (idx (endOf f (t.length + 1)) row) = rk (bN (pre t f (t.length + 1))) t.length (idx (endOf f (t.length + 1)) row) := by rw [hs]; exact hrk
  rw [e]
  exact ⟨_, _, by omega, by omega, rfl, hb⟩

set_option maxRecDepth 10000 in
set_option maxHeartbeats 1000000 in
theorem place_any {w : World} {g : Nat} {t : List UInt8} {rate : Nat} {f f2 : Nat → Nat} (h : IxT w g t rate f f2) (row : Nat) (hr : row ≤ t.length) :
    Calls Tryz.prog 63 #[.pointer (some ⟨g, 0, none⟩), .int .i64 (row : Int)] w fun e w' => e = .returned (.int .i64 (f row : Int)) ∧ Below w.heap.size w w' := by
  have hn := h.2.2.1
  have HF : Hid (∀ r, r ≤ t.length → f r ≤ t.length) := fun r hr => h.1.le r hr
  have hfr := HF.out row hr
  have HAT : Hid (∀ r w', r ≤ t.length → Below w.heap.size w w' → Calls Tryz.prog 93 #[.pointer (some ⟨g, 5, none⟩), .int .i64 (r : Int)] w' fun e w2 => e = .returned (.tuple #[.int .i64 ((if isK f rate r then f r else 0 : Nat) : Int), .bool (isK f rate r)]) ∧ Below w'.heap.size w' w2) := fun r w' hr hb => kept_at (h.below hb) r hr
  have HAH : Hid (∀ r w', r ≤ t.length → 0 < f r → Below w.heap.size w w' → Calls Tryz.prog 94 #[.pointer (some ⟨g, 0, none⟩), .int .i64 (r : Int)] w' fun en w2 => ∃ (c : Int) (r' : Nat), r' ≤ t.length ∧ f r' + 1 = f r ∧ en = .returned (.tuple #[.int .u8 c, .int .i64 (r' : Int)]) ∧ Below w'.heap.size w' w2) := fun r w' hr hp hb => side_aheadT (h.below hb).side r hr hp
  have HNK : Hid (∀ r, isK f rate r = false → 0 < f r) := fun r hk => by
    unfold isK at hk
    rcases Nat.eq_zero_or_pos (f r) with h0 | h0
    · rw [h0] at hk; simp at hk
    · exact h0
  clear h
  go_enter Tryz.func63, Tryz.ntmps63
  go_wp2_with fail
  go_loopw [1, 5, 6, 7] (fun rv sv _ _ wr => ∃ r st : Nat, r ≤ t.length ∧ rv = .int .i64 (r : Int) ∧ sv = .int .i64 (st : Int) ∧ f r + st = f row ∧ Below w.heap.size w wr) (fun _ sv _ _ _ => 3000 - (intOf sv).toNat)
  case atStart => exact ⟨row, 0, hr, rfl, rfl, rfl, Below.refl _ _⟩
  case round =>
    obtain ⟨r, st, hrl, rfl, rfl, hst, hb⟩ := hrel
    have HA : Hid _ := HAT.out r wr hrl hb
    go_wp2_with fail
    refine Calls.mono HA.out ?_
    clear HA
    rintro en w1 ⟨rfl, hb1⟩
    have hb2 := hb.trans (hb1.mono hb.size)
    clear hb hb1
    cases hK : isK f rate r with
    | true =>
      have HV : Hid ((f r : Int) + (st : Int) = (f row : Int)) := by show _ = _; omega
      have hfl := HF.out r hrl
      have hst2 : st ≤ 2000 := by omega
      clear HAT HAH HNK hK HF hst
      simp only [if_true]
      generalize f r = FR at *
      go_wp2
      go_ret
      exact ⟨by rw [← HV.out]; rfl, hb2⟩
    | false =>
      have HC : Hid _ := HAH.out r w1 hrl (HNK.out r hK) hb2
      have hpos := HNK.out r hK
      clear HAT HAH HNK hK HF
      go_wp2_with fail
      refine Calls.mono HC.out ?_
      clear HC
      rintro en w2 ⟨c, r', hr', hf', rfl, hb3⟩
      have hb4 := hb2.trans (hb3.mono hb2.size)
      have HS : Hid (f r' + (st + 1) = f row) := by show _ = _; omega
      have hst2 : st ≤ 2000 := by omega
      clear hb2 hb3 hf' hst hpos
      go_wp2
      go_roundw
      case rel => exact ⟨r', st + 1, hr', rfl, by go_num, HS.out, hb4⟩
      case measure => simp [intOf]; omega
end Go.Proofs.YtkebgnpifmcmaabGreat
