import Derived.Test.YtkebgnpifmcmaabGreatGX
import Derived.Shelf.SortM.SortNone
import Derived.Test.YtkebgnpifmcmaabGreatGP
import Derived.Test.YtkebgnpifmcmaabGreatGW
import Derived.Test.YtkebgnpifmcmaabGreatGQ
namespace Go.Proofs.YtkebgnpifmcmaabGreat
open Go.RowKit

theorem zero_search (x m k : Nat) (kv : Value) : (((Tryz.zeroCells96.setIfInBounds 0 (.pointer (some ⟨x, 0, none⟩))).setIfInBounds 1 (.int .u64 ((2 ^ m : Nat) : Int))).setIfInBounds 258 (.int .i64 (k : Int))).setIfInBounds 259 kv = AN 261 (SF x m k (fun _ => 0) kv (.slice none 0 0)) := by kernel_rfl

/-- What each byte follows in the pattern's first j bytes. -/
def HVj (P : List UInt8) (j : Nat) : Nat → Nat := fun c => wd (fun i => decide (i < j) && hv P (UInt8.ofNat c) i)
theorem HVj_lt (P : List UInt8) (j c : Nat) : HVj P j c < 2 ^ 64 := wd_lt _
theorem HVj_zero (P : List UInt8) : HVj P 0 = fun _ => 0 := by
  funext c
  rw [HVj, wd_zero]
  intro i _
  simp
theorem HVj_next (P : List UInt8) (j : Nat) (hj : j < P.length) (h64 : j < 64) (c : Nat) : upd (HVj P j) (P.getD j 0).toNat (HVj P j (P.getD j 0).toNat ||| 2 ^ j) c = HVj P (j + 1) c ∨ 256 ≤ c := by
  by_cases hc : c < 256
  · refine .inl ?_
    have hcv : (UInt8.ofNat c).toNat = c := ofNat_toNat hc
    have hget : P[j]? = some (P.getD j 0) := by rw [List.getD_eq_getElem?_getD, List.getElem?_eq_getElem hj]; rfl
    by_cases e : c = (P.getD j 0).toNat
    · rw [← e, upd_at]
      rw [HVj, HVj, ← wd_one j h64, wd_or]
      refine wd_congr (fun i _ => ?_)
      have ec : UInt8.ofNat c = P.getD j 0 := UInt8.toNat_inj.1 (by rw [hcv, e])
      by_cases h1 : i = j
      · subst h1
        have h3 : hv P (UInt8.ofNat c) i = true := by rw [hv, hget, ec]; exact decide_eq_true rfl
        simp [h3]
      · by_cases h2 : i < j
        · simp [h1, h2, show i < j + 1 by omega]
        · simp [h1, h2, show ¬ i < j + 1 by omega]
    · rw [upd_ne _ _ _ e, HVj, HVj]
      refine wd_congr (fun i _ => ?_)
      by_cases h1 : i = j
      · subst h1
        have : hv P (UInt8.ofNat c) i = false := by
          simp only [hv, hget, decide_eq_false_iff_not, Option.some.injEq]
          intro h2; exact e (by rw [h2, hcv])
        simp [this]
      · by_cases h2 : i < j
        · simp [h2, show i < j + 1 by omega]
        · simp [h2, show ¬ i < j + 1 by omega]
  · exact .inr (by omega)
theorem HVj_end (P : List UInt8) (c : UInt8) : HVj P P.length c.toNat = wd (hv P c) := by
  have ec : UInt8.ofNat c.toNat = c := by simp
  rw [HVj, ec]
  refine wd_congr (fun i _ => ?_)
  by_cases h : i < P.length
  · simp [h]
  · have h2 : P[i]? = none := List.getElem?_eq_none (by omega)
    have : hv P c i = false := by rw [hv, h2]; exact decide_eq_false (by simp)
    simp [h, this]
end Go.Proofs.YtkebgnpifmcmaabGreat

namespace Go.Proofs.YtkebgnpifmcmaabGreat
open Go.RowKit Go.Sort

theorem enterStart (args : Array Value) (w : World) : (callFunc 61 args).run Tryz.prog w = .ok (.enter 61 args) w := Go.MuLone.run_callFunc_enter (P := Tryz.prog) Tryz.func61 (by kernel_rfl) rfl args w
theorem shl_one (m : Nat) (h : m < 64) : IntKind.u64.wrap (2 ^ m) = ((2 ^ m : Nat) : Int) := by
  have h2 : 2 ^ m < 2 ^ 64 := Nat.pow_lt_pow_right (by decide) h
  have e2 : (2 : Int) ^ m = ((2 ^ m : Nat) : Int) := by simp
  rw [e2]
  simp [IntKind.wrap, IntKind.bits, IntKind.signed]
  rw [Int.emod_eq_of_lt (Int.pow_nonneg (by decide)) (by have : ((2 ^ m : Nat) : Int) < ((2 ^ 64 : Nat) : Int) := Int.ofNat_lt.2 h2; simpa using this)]

set_option maxRecDepth 10000 in
set_option maxHeartbeats 4000000 in
theorem near_any {w : World} {g : Nat} {t : List UInt8} {rate : Nat} {f f2 : Nat → Nat} (h : IxT w g t rate f f2) (p : ByteArray) (h0 : 0 < p.size) (h1 : p.size ≤ 30) (k : Nat) (hk4 : k ≤ 4) {gk nk ck : Nat} {kd : Nat → Nat} (hrk : Row w gk 3 nk (IN kd)) (hnk : nk ≤ 10) (hkd : ∀ i, i < nk → kd i ≤ 2) (pi ta re : Bool) (hed : ∀ F G, edK kd F G nk = edd pi ta re F G) (B : Nat → Bool) (hB : ∀ x, Hit t (tx p) pi ta re k [] x ↔ x < t.length + 1 ∧ B x = true) :
    Calls Tryz.prog 37 #[.pointer (some ⟨g, 0, none⟩), .string p, .int .i64 (k : Int), .slice (some ⟨gk, 0, none⟩) nk ck] w fun e w' => ∃ v, e = .returned v ∧ OwnL w' w.heap.size v (filt B (t.length + 1)) ∧ Below w.heap.size w w' := by
  have hn := h.2.2.1
  have HE2 : Hid (IntKind.u64.wrap (2 ^ p.size) = ((2 ^ p.size : Nat) : Int)) := shl_one p.size (by omega)
  have q0 := Blk.new w 96 (AN 261 (SF g p.size k (fun _ => 0) (.slice (some ⟨gk, 0, none⟩) nk ck) (.slice none 0 0)))
  have hb0 : Below w.heap.size w (w.alloc (.cells (AN 261 (SF g p.size k (fun _ => 0) (.slice (some ⟨gk, 0, none⟩) nk ck) (.slice none 0 0))) 96)) := (Below.refl _ _).alloc (Nat.le_refl _) _
  go_enter Tryz.func37, Tryz.ntmps37
  go_wp2_with fail
  rw [HE2.out, zero_search]
  generalize w.alloc (.cells (AN 261 (SF g p.size k (fun _ => 0) (.slice (some ⟨gk, 0, none⟩) nk ck) (.slice none 0 0))) 96) = W0 at *
  generalize Value.agg (AN 261 (SF g p.size k (fun _ => 0) (.slice (some ⟨gk, 0, none⟩) nk ck) (.slice none 0 0))) = SV
  obtain ⟨G, hG⟩ : ∃ G, G = w.heap.size := ⟨_, rfl⟩
  have HG : Hid (G = w.heap.size) := hG
  rw [← hG] at q0 hb0 ⊢
  clear hG
  have hS0 : SB W0 G g p.size k (HVj (tx p) 0) (.slice (some ⟨gk, 0, none⟩) nk ck) (.slice none 0 0) := by rw [HVj_zero]; exact q0
  clear q0
  generalize ((2 ^ p.size : Nat) : Int) = MM
  go_loopw [22, 10] (fun iv _ wr => ∃ j : Nat, j ≤ p.size ∧ iv = .int .i64 (j : Int) ∧ SB wr G g p.size k (HVj (tx p) j) (.slice (some ⟨gk, 0, none⟩) nk ck) (.slice none 0 0) ∧ Below G w wr) (fun iv _ _ => p.size - (intOf iv).toNat)
  case atStart => exact ⟨0, Nat.zero_le _, rfl, hS0, hb0⟩
  case round =>
    clear hS0 hb0
    obtain ⟨j, hj, rfl, hS, hb⟩ := hrel
    by_cases hlt : j < p.size
    · have hby := (p[j]).toNat_lt
      have HGX : Hid (p[j] = (tx p).getD j 0) := (tx_getD p j hlt).symm
      have hc1 := hS.have_ (p[j]).toNat hby
      have hc1' : wr.drew.cell? ⟨G, 2 + (p[j]).toNat, none⟩ = some (.int .u64 (HVj (tx p) j (p[j]).toNat : Int)) := hc1
      have hfz := Blk.free hS (2 + (p[j]).toNat)
      have hfz' : wr.drew.frozen? ⟨G, 2 + (p[j]).toNat, none⟩ = false := hfz
      have hbI : ((p[j]).toNat : Int) < 256 := by omega
      have hbI0 : (0 : Int) ≤ ((p[j]).toNat : Int) := by omega
      have hjI : (j : Int) < (p.size : Int) := by omega
      have hjI0 : (0 : Int) ≤ (j : Int) := by omega
      have HN : Hid (SB (wr.drew.setCell ⟨G, 2 + (p[j]).toNat, none⟩ (.int .u64 ((HVj (tx p) j (p[j]).toNat ||| 2 ^ j : Nat) : Int))) G g p.size k (HVj (tx p) (j + 1)) (.slice (some ⟨gk, 0, none⟩) nk ck) (.slice none 0 0)) := by
        have hSd : SB wr.drew G g p.size k (HVj (tx p) j) (.slice (some ⟨gk, 0, none⟩) nk ck) (.slice none 0 0) := hS
        have h3 := hSd.setHave (p[j]).toNat (HVj (tx p) j (p[j]).toNat ||| 2 ^ j) hby
        show SB _ _ _ _ _ _ _ _
        unfold SB at h3 ⊢
        rw [AN_congr (G := SF g p.size k (HVj (tx p) (j + 1)) (.slice (some ⟨gk, 0, none⟩) nk ck) (.slice none 0 0))] at h3
        · exact h3
        · intro i hi
          simp only [SF]
          by_cases h5 : i < 258
          · have := HVj_next (tx p) j (by rw [tx_length]; exact hlt) (by omega) (i - 2)
            rw [← HGX.out] at this
            rcases this with h6 | h6
            · rw [h6]
            · omega
          · rw [if_neg h5, if_neg h5]
      go_upto_region 5 with fail
      refine region_tail 14 (by kernel_rfl) ?_
      simp only [List.take_succ_cons, List.take_zero, List.drop_succ_cons, List.drop_zero]
      repeat (refine wpStill_step (fun K hK => ?_); go_simp; refine hK _ ?_; clear hK K)
      refine wpStill_nil ?_
      go_wp2
      go_roundw
      case rel =>
        refine ⟨j + 1, by omega, by go_num, ?_, hb.drew.setCell (Nat.le_refl _) _⟩
        have h3 := HN.out
        rw [← u64_or_nat _ _ (by simpa using HVj_lt _ _ _) (by have : 2 ^ j < 2 ^ 64 := Nat.pow_lt_pow_right (by decide) (by omega); simpa using this), ← shl_one j (by omega)] at h3
        exact h3
      case measure => simp [intOf]; omega
    · obtain rfl : j = p.size := by omega
      have hSE : SB wr G g p.size k (HVj (tx p) p.size) (.slice (some ⟨gk, 0, none⟩) nk ck) (.slice none 0 0) := hS
      have hbw : Below w.heap.size w wr := by rw [← HG.out]; exact hb
      have hIx := h.below hbw
      have HRW : Hid _ := side_rowsT (hIx.side)
      have hlr : (t.length : Int) ≤ 2000 := by omega
      go_wp2_with fail
      refine Calls.mono HRW.out ?_
      clear HRW
      rintro en w2 ⟨rfl, rfl⟩
      have q3 := Blk.new w2 47 #[.int .i64 0, .int .i64 ((t.length : Int) + 1), .int .i64 0]
      have hbA := (Below.refl w2.heap.size w2).alloc (Nat.le_refl _) (.cells #[.int .i64 0, .int .i64 ((t.length : Int) + 1), .int .i64 0] 47)
      have hbB : Below w.heap.size w _ := hbw.trans (hbA.mono hbw.size)
      have hSA := hSE.below hbA
      have hns : 0 < NS t [] := NS_pos (x := 0) (Nat.zero_le _) (by rw [stP_pre]; exact List.nil_prefix)
      have hgB : w.heap.size ≤ G := by rw [HG.out]; exact Nat.le_refl _
      have HCX : Hid (Cx w G g gk nk ck p.size k t (tx p) rate f f2 (HVj (tx p) p.size) kd pi ta re) := ⟨h, hgB, hrk, hnk, hkd, hk4, hed, tx_length p, h1, fun c => by rw [← tx_length p]; exact HVj_end (tx p) c, rfl⟩
      have HRK : Hid (∀ w', Below w.heap.size w w' → Row w' gk 3 nk (IN kd)) := fun w' hb' => hrk.below hb' hrk.lt
      have HKD : Hid (∀ i, i < nk → kd i ≤ 2) := hkd
      have HEDD : Hid (∀ F G, edK kd F G nk = edd pi ta re F G) := hed
      have HHB : Hid (∀ x, Hit t (tx p) pi ta re k [] x ↔ x < t.length + 1 ∧ B x = true) := hB
      clear h hIx hrk hkd hed hB hS hSE hb hbA
      go_upto_region 8 with fail
      generalize w2.alloc (.cells #[.int .i64 0, .int .i64 ((t.length : Int) + 1), .int .i64 0] 47) = W3 at *
      generalize w2.heap.size = GP at *
      have hSD : SB W3.drew G g p.size k (HVj (tx p) p.size) (.slice (some ⟨gk, 0, none⟩) nk ck) (.slice none 0 0) := hSA
      have hbD := hbB.drew
      obtain ⟨X0, X1, X2, X3, X4, hX⟩ := AN5X (rb0 pi ta re) (k + 1)
      have HST : Hid (Calls Tryz.prog 61 #[.pointer (some ⟨G, 0, none⟩)] W3.drew fun e w' => e = .returned (.agg #[.int .u64 (X0 : Int), .int .u64 (X1 : Int), .int .u64 (X2 : Int), .int .u64 (X3 : Int), .int .u64 (X4 : Int)]) ∧ Below W3.drew.heap.size W3.drew w') := by
        have := start_any hSD (HRK.out _ hbD) hnk HKD.out hk4 pi ta re HEDD.out
        rw [hX] at this
        exact this
      have HVI : Hid (∀ w', Below W3.drew.heap.size W3.drew w' → Calls Tryz.prog 60 #[.pointer (some ⟨G, 0, none⟩), .agg #[.int .i64 0, .int .i64 ((t.length : Int) + 1), .int .i64 0], .agg #[.int .u64 (X0 : Int), .int .u64 (X1 : Int), .int .u64 (X2 : Int), .int .u64 (X3 : Int), .int .u64 (X4 : Int)]] w' (VisitQ w w' G g gk nk ck p.size k t (tx p) (HVj (tx p) p.size) pi ta re [] [])) := fun w' hb' => by
        have := visit_any HCX.out (t.length + 1) [] 0 (t.length + 1) 0 w' (.slice none 0 0) [] (by simp) (PairIs.nil t) hns (hbD.trans (hb'.mono hbD.size)) (hSD.below hb') (World.ownsRow_nil _ _ _ _) (Fit.nil t [])
        rw [rb_nil, hX, Int.natCast_add] at this
        exact this
      have y0 : W3.cell? ⟨GP, 0, none⟩ = some (.int .i64 0) := q3.cell 0
      have y1 : W3.cell? ⟨GP, 1, none⟩ = some (.int .i64 ((t.length : Int) + 1)) := q3.cell 1
      have y2 : W3.cell? ⟨GP, 2, none⟩ = some (.int .i64 0) := q3.cell 2
      have y0' : W3.drew.cell? ⟨GP, 0, none⟩ = some (.int .i64 0) := y0
      have y1' : W3.drew.cell? ⟨GP, 1, none⟩ = some (.int .i64 ((t.length : Int) + 1)) := y1
      have y2' : W3.drew.cell? ⟨GP, 2, none⟩ = some (.int .i64 0) := y2
      have q3D : Blk W3.drew GP 47 #[.int .i64 0, .int .i64 ((t.length : Int) + 1), .int .i64 0] := q3
      clear hX q3 hSA hSD hbB
      go_cut [8] from 45 to 49 (fun q wx => ∃ W4 pv' L1, W4 = wx ∧ q = .slice none 0 0 ∧ Found t (tx p) pi ta re k [] L1 ∧ SB W4 G g p.size k (HVj (tx p) p.size) (.slice (some ⟨gk, 0, none⟩) nk ck) pv' ∧ OwnL W4 w.heap.size pv' L1 ∧ Below w.heap.size w W4)
      case first =>
        go_region_law (first
          | (refine step_calls (args := #[.pointer (some ⟨G, 0, none⟩)]) rfl rfl enterStart (by simp [Act.eval, Act.put]) HST.out ?_; rintro en w3 ⟨rfl, hb4⟩; refine ⟨_, rfl, ?_⟩; have v0 := (q3D.below hb4 q3D.lt).cell 0; have v1 := (q3D.below hb4 q3D.lt).cell 1; have v2 := (q3D.below hb4 q3D.lt).cell 2)
          | (refine step_calls (args := #[.pointer (some ⟨G, 0, none⟩), .agg #[.int .i64 0, .int .i64 ((t.length : Int) + 1), .int .i64 0], .agg #[.int .u64 (X0 : Int), .int .u64 (X1 : Int), .int .u64 (X2 : Int), .int .u64 (X3 : Int), .int .u64 (X4 : Int)]]) rfl rfl enterVisit (by simp [Act.eval]) (HVI.out w3 hb4) ?_; rintro en w4 ⟨rfl, ⟨pv2, L2, hF2, hS4, hown4⟩, hbw4, hK4⟩; refine ⟨_, rfl, ?_⟩))
        all_goals (go_wp2_with fail)
        all_goals go_meet
        all_goals exact ⟨_, pv2, L2, rfl, rfl, hF2, hS4, hown4, hbw4⟩
      case rest =>
        obtain ⟨W4, pv', L1, rfl, rfl, hF, hS4, hown4, hb4⟩ := hcut
        have HSF : Hid ((asI L1).mergeSort (fun x y => decide (x ≤ y)) = asI (filt B (t.length + 1))) := sort_filt hF.1 (fun x => by rw [hF.2 x, HHB.out x])
        have hlen : L1.length ≤ t.length + 1 := nodup_len hF.1 (fun x hx => ((hF.2 x).1 hx).1)
        have HLE : Hid ((filt B (t.length + 1)).length = L1.length) := by
          have := congrArg List.length HSF.out
          rw [List.length_mergeSort, asI_length, asI_length] at this
          exact this.symm
        have cp := hS4.places
        rcases hown4.2 with ⟨rfl, hl0⟩ | ⟨gv, cap, cur, hv, hbg, _⟩
        · have HSO : Hid _ := AnyM.slices_Sort_int_none Tryz.sortInts none 0 W4
          have HOW : Hid (OwnL W4 w.heap.size (.slice none 0 0) (filt B (t.length + 1))) := by
            have h6 : filt B (t.length + 1) = [] := List.length_eq_zero_iff.1 (by rw [HLE.out]; exact hl0)
            show OwnL _ _ _ _
            rw [h6]; exact World.ownsRow_nil _ _ _ _
          go_wp2_with fail
          refine Calls.mono HSO.out ?_
          clear HSO
          rintro en w5 ⟨rfl, rfl⟩
          go_wp2
          go_ret
          exact ⟨_, rfl, HOW.out, hb4⟩
        · subst hv
          have hso := sort_own hown4 hbg (by omega)
          rw [HSF.out, NL_map] at hso
          have HSO : Hid _ := hso
          clear hso
          go_wp2_with fail
          refine Calls.mono HSO.out ?_
          clear HSO
          rintro en w5 ⟨rfl, hown5, hgr5⟩
          have hb5 : Below w.heap.size w w5 := hb4.grown hgr5 hb4.size (fun k hk => by cases hk; exact hbg)
          have hS5 : SB w5 G g p.size k (HVj (tx p) p.size) (.slice (some ⟨gk, 0, none⟩) nk ck) (.slice (some ⟨gv, 0, none⟩) L1.length cap) := SB.grown hS4 hown4 hgr5
          have cp5 := hS5.places
          have HOW : Hid (OwnL w5 w.heap.size (.slice (some ⟨gv, 0, none⟩) L1.length cap) (filt B (t.length + 1))) := by
            show w5.ownsRow w.heap.size 3 1 (.slice (some ⟨gv, 0, none⟩) L1.length cap) (filt B (t.length + 1)).length (NL (filt B (t.length + 1)))
            rw [HLE.out]; exact hown5
          clear hown5 hown4 hS5 hS4
          go_wp2
          go_ret
          exact ⟨_, rfl, HOW.out, hb5⟩
end Go.Proofs.YtkebgnpifmcmaabGreat

namespace Go.Proofs.YtkebgnpifmcmaabGreat
open Go.RowKit

/-- What Wrong or Edits answers: where its k may be so, and where the pattern stands so. -/
def NearRes (okK : Prop) (B : Nat → Bool) (im p : ByteArray) (w : World) (e : Ending) (w' : World) : Prop :=
  ((¬ Reads im ∧ e = .returned (.tuple #[.slice none 0 0, .int .i64 4])) ∨
   (Reads im ∧ ¬ (0 < p.size ∧ p.size ≤ 30) ∧ e = .returned (.tuple #[.slice none 0 0, .int .i64 (patE p)])) ∨
   (Reads im ∧ (0 < p.size ∧ p.size ≤ 30) ∧ ¬ okK ∧ e = .returned (.tuple #[.slice none 0 0, .int .i64 8])) ∨
   (Reads im ∧ (0 < p.size ∧ p.size ≤ 30) ∧ okK ∧ ∃ v, e = .returned (.tuple #[v, .int .i64 0]) ∧ OwnL w' w.heap.size v (filt B ((imT im).length + 1)))) ∧ Below w.heap.size w w'

theorem row_of_blk {w : World} {g : Nat} {cs : Array Value} {n : Nat} {kd : Nat → Nat} (h : Blk w g 3 cs) (hn : n ≤ cs.size) (hc : ∀ j, j < n → cs[j]? = some (.int .i64 (kd j : Int))) : Row w g 3 n (IN kd) := ⟨cs, h, hn, hc⟩
theorem kinds1 : ∀ j, j < 1 → (#[.int .i64 2] : Array Value)[j]? = some (.int .i64 ((2 : Nat) : Int)) := by
  intro j hj
  obtain rfl : j = 0 := by omega
  rfl
theorem kinds3 : ∀ j, j < 3 → (#[.int .i64 0, .int .i64 1, .int .i64 2] : Array Value)[j]? = some (.int .i64 (j : Int)) := by
  intro j hj
  obtain rfl | rfl | rfl : j = 0 ∨ j = 1 ∨ j = 2 := by omega
  all_goals rfl
theorem edK_wrong (F G : Nat → Bool) : edK (fun _ => 2) F G 1 = edd false false true F G := by
  funext j; simp [edK, opK, edd]
theorem edK_edits (F G : Nat → Bool) : edK (fun i => i) F G 3 = edd true true true F G := by
  funext j; simp [edK, opK, edd, Bool.or_assoc]
theorem OwnL.base {w : World} {a b : Nat} {v : Value} {l : List Nat} (h : OwnL w a v l) (hb : b ≤ a) : OwnL w b v l := by
  refine ⟨h.1, ?_⟩
  rcases h.2 with hn | ⟨g, cap, cur, hv, hbs, rest⟩
  · exact .inl hn
  · exact .inr ⟨g, cap, cur, hv, by omega, rest⟩

set_option maxRecDepth 10000 in
set_option maxHeartbeats 1000000 in
theorem wrong_any (im p : ByteArray) (kk : Int) (w : World) (hp : p.size ≤ maxLen) : Calls Tryz.prog 18 #[.string im, .string p, .int .i64 kk] w (NearRes (0 ≤ kk ∧ kk ≤ 4) (wrP (imT im) (tx p) kk.toNat) im p w) := by
  have HX : Hid _ := opened_any im p w hp
  go_enter Tryz.func18, Tryz.ntmps18
  go_wp2_with fail
  refine Calls.mono HX.out ?_
  clear HX
  rintro en w1 ⟨hres, hb⟩
  rcases hres with ⟨hR, rfl⟩ | ⟨hR, hsz, rfl, hpe⟩ | ⟨hR, hsz, hpe, g, f, f2, rfl, hIx⟩
  · have HR : Hid (¬ Reads im) := hR
    clear hR
    go_wp2
    go_ret2
    exact ⟨.inl ⟨HR.out, rfl⟩, hb⟩
  · have HR : Hid (Reads im ∧ ¬ (0 < p.size ∧ p.size ≤ 30)) := ⟨hR, hsz⟩
    clear hR hsz
    generalize hE : patE p = E at *
    have HE : Hid (patE p = E) := hE
    clear hE
    rcases hpe with rfl | rfl
    all_goals go_wp2
    all_goals go_ret2
    all_goals exact ⟨.inr (.inl ⟨HR.out.1, HR.out.2, by rw [HE.out]; rfl⟩), hb⟩
  · have HR : Hid (Reads im ∧ (0 < p.size ∧ p.size ≤ 30)) := ⟨hR, hsz⟩
    by_cases hk0 : kk < 0
    · have d1 : decide (kk < 0) = true := by simpa using hk0
      have HK : Hid (¬ (0 ≤ kk ∧ kk ≤ 4)) := fun hh => by omega
      clear hR hsz hIx hpe
      go_wp2
      go_ret2
      exact ⟨.inr (.inr (.inl ⟨HR.out.1, HR.out.2, HK.out, rfl⟩)), hb⟩
    · have d1 : decide (kk < 0) = false := by simpa using hk0
      by_cases hk4 : 4 < kk
      · have d2 : decide (4 < kk) = true := by simpa using hk4
        have HK : Hid (¬ (0 ≤ kk ∧ kk ≤ 4)) := fun hh => by omega
        clear hR hsz hIx hpe
        go_wp2
        go_ret2
        exact ⟨.inr (.inr (.inl ⟨HR.out.1, HR.out.2, HK.out, rfl⟩)), hb⟩
      · have d2 : decide (4 < kk) = false := by simpa using hk4
        have HK : Hid (0 ≤ kk ∧ kk ≤ 4) := ⟨by omega, by omega⟩
        obtain ⟨k, rfl⟩ : ∃ k : Nat, kk = (k : Int) := ⟨kk.toNat, by omega⟩
        have hbA := (Below.refl w1.heap.size w1).alloc (Nat.le_refl _) (.cells #[.int .i64 2] 3)
        have hrow : Row (w1.alloc (.cells #[.int .i64 2] 3)) w1.heap.size 3 1 (IN fun _ => 2) := row_of_blk (Blk.new w1 3 #[.int .i64 2]) (by simp) kinds1
        have HNE : Hid _ := near_any (ck := 1) (hIx.below hbA) p hsz.1 hsz.2 k (by omega) hrow (by decide) (fun i _ => by decide) false false true edK_wrong (wrP (imT im) (tx p) k) (hit_wrong (imT im) (tx p) k)
        have hb1 := hb.trans (hbA.mono hb.size)
        have hsA : w.heap.size ≤ (w1.alloc (.cells #[.int .i64 2] 3)).heap.size := hb1.size
        clear hR hsz hIx hpe hrow hbA hk0 hk4
        go_wp2_with fail
        refine Calls.mono HNE.out ?_
        clear HNE
        rintro en w2 ⟨v, rfl, hown, hb2⟩
        have hb3 := hb1.trans (hb2.mono hb1.size)
        have HOW : Hid (OwnL w2 w.heap.size v (filt (wrP (imT im) (tx p) k) ((imT im).length + 1))) := hown.base hsA
        clear hown hb2 hb1
        go_wp2
        go_ret2
        exact ⟨.inr (.inr (.inr ⟨HR.out.1, HR.out.2, HK.out, v, rfl, by rw [Int.toNat_natCast]; exact HOW.out⟩)), hb3⟩

set_option maxRecDepth 10000 in
set_option maxHeartbeats 1000000 in
theorem edits_any (im p : ByteArray) (kk : Int) (w : World) (hp : p.size ≤ maxLen) : Calls Tryz.prog 22 #[.string im, .string p, .int .i64 kk] w (NearRes (0 ≤ kk ∧ kk ≤ 4 ∧ kk < (p.size : Int)) (neB (imT im) (tx p) kk.toNat) im p w) := by
  have HX : Hid _ := opened_any im p w hp
  go_enter Tryz.func22, Tryz.ntmps22
  go_wp2_with fail
  refine Calls.mono HX.out ?_
  clear HX
  rintro en w1 ⟨hres, hb⟩
  rcases hres with ⟨hR, rfl⟩ | ⟨hR, hsz, rfl, hpe⟩ | ⟨hR, hsz, hpe, g, f, f2, rfl, hIx⟩
  · have HR : Hid (¬ Reads im) := hR
    clear hR
    go_wp2
    go_ret2
    exact ⟨.inl ⟨HR.out, rfl⟩, hb⟩
  · have HR : Hid (Reads im ∧ ¬ (0 < p.size ∧ p.size ≤ 30)) := ⟨hR, hsz⟩
    clear hR hsz
    generalize hE : patE p = E at *
    have HE : Hid (patE p = E) := hE
    clear hE
    rcases hpe with rfl | rfl
    all_goals go_wp2
    all_goals go_ret2
    all_goals exact ⟨.inr (.inl ⟨HR.out.1, HR.out.2, by rw [HE.out]; rfl⟩), hb⟩
  · have HR : Hid (Reads im ∧ (0 < p.size ∧ p.size ≤ 30)) := ⟨hR, hsz⟩
    by_cases hk0 : kk < 0
    · have d1 : decide (kk < 0) = true := by simpa using hk0
      have HK : Hid (¬ (0 ≤ kk ∧ kk ≤ 4 ∧ kk < (p.size : Int))) := fun hh => by omega
      clear hR hsz hIx hpe
      go_wp2
      go_ret2
      exact ⟨.inr (.inr (.inl ⟨HR.out.1, HR.out.2, HK.out, rfl⟩)), hb⟩
    · have d1 : decide (kk < 0) = false := by simpa using hk0
      by_cases hk4 : 4 < kk
      · have d2 : decide (4 < kk) = true := by simpa using hk4
        have HK : Hid (¬ (0 ≤ kk ∧ kk ≤ 4 ∧ kk < (p.size : Int))) := fun hh => by omega
        clear hR hsz hIx hpe
        go_wp2
        go_ret2
        exact ⟨.inr (.inr (.inl ⟨HR.out.1, HR.out.2, HK.out, rfl⟩)), hb⟩
      · have d2 : decide (4 < kk) = false := by simpa using hk4
        by_cases hkp : (p.size : Int) ≤ kk
        · have d3 : decide ((p.size : Int) ≤ kk) = true := by simpa using hkp
          have HK : Hid (¬ (0 ≤ kk ∧ kk ≤ 4 ∧ kk < (p.size : Int))) := fun hh => by omega
          clear hR hsz hIx hpe
          go_wp2
          go_ret2
          exact ⟨.inr (.inr (.inl ⟨HR.out.1, HR.out.2, HK.out, rfl⟩)), hb⟩
        · have d3 : decide ((p.size : Int) ≤ kk) = false := by simpa using hkp
          have HK : Hid (0 ≤ kk ∧ kk ≤ 4 ∧ kk < (p.size : Int)) := ⟨by omega, by omega, by omega⟩
          obtain ⟨k, rfl⟩ : ∃ k : Nat, kk = (k : Int) := ⟨kk.toNat, by omega⟩
          have hkn : ¬ p.size ≤ k := by omega
          have hbA := (Below.refl w1.heap.size w1).alloc (Nat.le_refl _) (.cells #[.int .i64 0, .int .i64 1, .int .i64 2] 3)
          have hrow : Row (w1.alloc (.cells #[.int .i64 0, .int .i64 1, .int .i64 2] 3)) w1.heap.size 3 3 (IN fun i => i) := row_of_blk (Blk.new w1 3 #[.int .i64 0, .int .i64 1, .int .i64 2]) (by simp) kinds3
          have HNE : Hid _ := near_any (ck := 3) (hIx.below hbA) p hsz.1 hsz.2 k (by omega) hrow (by decide) (fun i _ => by omega) true true true edK_edits (neB (imT im) (tx p) k) (hit_edits (imT im) (tx p) k)
          have hb1 := hb.trans (hbA.mono hb.size)
          have hsA : w.heap.size ≤ (w1.alloc (.cells #[.int .i64 0, .int .i64 1, .int .i64 2] 3)).heap.size := hb1.size
          clear hR hsz hIx hpe hrow hbA hk0 hk4 hkp
          go_wp2_with fail
          refine Calls.mono HNE.out ?_
          clear HNE
          rintro en w2 ⟨v, rfl, hown, hb2⟩
          have hb3 := hb1.trans (hb2.mono hb1.size)
          have HOW : Hid (OwnL w2 w.heap.size v (filt (neB (imT im) (tx p) k) ((imT im).length + 1))) := hown.base hsA
          clear hown hb2 hb1
          go_wp2
          go_ret2
          exact ⟨.inr (.inr (.inr ⟨HR.out.1, HR.out.2, HK.out, v, rfl, by rw [Int.toNat_natCast]; exact HOW.out⟩)), hb3⟩
end Go.Proofs.YtkebgnpifmcmaabGreat

namespace Go.Proofs.YtkebgnpifmcmaabGreat
open Go.RowKit

set_option maxRecDepth 10000 in
set_option maxHeartbeats 1000000 in
theorem wrong_yes (im s p : ByteArray) (kk : Int) (w : World) (hR : Reads im) (ht : imT im = tx s) (hp : p.size ≤ maxLen) :
    Calls Tryz.prog 10 #[.string im, .string s, .bool true, .string p, .int .i64 kk] w fun e w' => e = .returned (.bool true) ∧ Below w.heap.size w w' := by
  have hn : s.size ≤ 2000 := by have := imT_le hR w; rw [ht, tx_length] at this; exact this
  by_cases hsz : 0 < p.size ∧ p.size ≤ 30
  · by_cases hK : 0 ≤ kk ∧ kk ≤ 4
    · obtain ⟨k, rfl⟩ : ∃ k : Nat, kk = (k : Int) := ⟨kk.toNat, by omega⟩
      have HL : Hid (∀ w, Calls Tryz.prog 18 #[.string im, .string p, .int .i64 (k : Int)] w fun e w' => ∃ v, e = .returned (.tuple #[v, .int .i64 0]) ∧ Lst w' v (filt (wrP (tx s) (tx p) k) (s.size + 1)).length (II fun j => ((filt (wrP (tx s) (tx p) k) (s.size + 1)).getD j 0 : Int)) ∧ Below w.heap.size w w') := fun w => (wrong_any im p (k : Int) w hp).mono (fun e w' hh => by
        rcases hh with ⟨⟨h, _⟩ | ⟨_, h, _⟩ | ⟨_, _, h, _⟩ | ⟨_, _, _, v, he, ho⟩, hb⟩
        · exact absurd hR h
        · exact absurd hsz h
        · exact absurd hK h
        · rw [ht, tx_length, Int.toNat_natCast] at ho; exact ⟨v, he, ho.lst, hb⟩)
      have HW : Hid (∀ w, Calls Tryz.prog 31 #[.string s, .string p, .int .i64 (k : Int)] w fun e w' => ∃ v, e = .returned (.tuple #[v, .int .i64 0]) ∧ Lst w' v (filt (wrP (tx s) (tx p) k) (s.size + 1)).length (II fun j => ((filt (wrP (tx s) (tx p) k) (s.size + 1)).getD j 0 : Int)) ∧ Below w.heap.size w w') := fun w => (refWrong_k s p k w hn hsz.1 hsz.2 (by omega)).mono (fun e w' ⟨v, he, ho, hb⟩ => ⟨v, he, ho.lst, hb⟩)
      have hfl : (filt (wrP (tx s) (tx p) k) (s.size + 1)).length ≤ 3000 := by rw [filt_length]; have := cntB_le (wrP (tx s) (tx p) k) (s.size + 1); omega
      clear hR ht hp hsz hK
      generalize (fun j => ((filt (wrP (tx s) (tx p) k) (s.size + 1)).getD j 0 : Int)) = F at *
      generalize (filt (wrP (tx s) (tx p) k) (s.size + 1)).length = M at *
      go_enter Tryz.func10, Tryz.ntmps10
      go_wp2_with fail
      refine Calls.mono (HL.out _) ?_
      clear HL
      rintro en w2 ⟨va, rfl, hla, hb3⟩
      obtain ⟨ao, ca, rfl, ha⟩ := hla
      have hla : Lst w2 (.slice ao M ca) M (II F) := ⟨ao, ca, rfl, ha⟩
      clear ha
      go_wp2_with fail
      refine Calls.mono (HW.out w2) ?_
      clear HW
      rintro en w3 ⟨vb, rfl, hlb, hb4⟩
      obtain ⟨bo, cb, rfl, hb⟩ := hlb
      have hlb : Lst w3 (.slice bo M cb) M (II F) := ⟨bo, cb, rfl, hb⟩
      have HSM : Hid _ := same_true (.slice ao M ca) (.slice bo M cb) M F w3 hfl (hla.below hb4) hlb
      have hb5 := hb3.trans (hb4.mono hb3.size)
      clear hb3 hb4 hla hlb hb
      go_wp2_with fail
      refine Calls.mono HSM.out ?_
      clear HSM
      rintro en w4 ⟨rfl, q, rfl⟩
      have hb6 := below_drewN hb5 q
      go_wp2
      go_ret
      exact ⟨rfl, hb6⟩
    · have HL : Hid (∀ w, Calls Tryz.prog 18 #[.string im, .string p, .int .i64 kk] w fun e w' => e = .returned (.tuple #[.slice none 0 0, .int .i64 8]) ∧ Below w.heap.size w w') := fun w => (wrong_any im p kk w hp).mono (fun e w' hh => by
        rcases hh with ⟨⟨h, _⟩ | ⟨_, h, _⟩ | ⟨_, _, _, he⟩ | ⟨_, _, h, _⟩, hb⟩
        · exact absurd hR h
        · exact absurd hsz h
        · exact ⟨he, hb⟩
        · exact absurd h hK)
      have HW : Hid (∀ w, Calls Tryz.prog 31 #[.string s, .string p, .int .i64 kk] w fun e w' => e = .returned (.tuple #[.slice none 0 0, .int .i64 8]) ∧ w' = w) := fun w => refWrong_badK s p kk w hsz.1 hsz.2 (by omega)
      have HSM : Hid (∀ w, Calls Tryz.prog 32 #[.slice none 0 0, .slice none 0 0] w fun e w' => e = .returned (.bool true) ∧ ∃ m, w' = w.drewN m) := fun w => same_true (.slice none 0 0) (.slice none 0 0) 0 (fun _ => 0) w (by decide) ⟨none, 0, rfl, fun h => by omega⟩ ⟨none, 0, rfl, fun h => by omega⟩
      clear hR ht hp hsz hK
      go_enter Tryz.func10, Tryz.ntmps10
      go_wp2_with fail
      refine Calls.mono (HL.out _) ?_
      clear HL
      rintro en w2 ⟨rfl, hb3⟩
      go_wp2_with fail
      refine Calls.mono (HW.out w2) ?_
      clear HW
      rintro en w3 ⟨rfl, rfl⟩
      go_wp2_with fail
      refine Calls.mono (HSM.out _) ?_
      clear HSM
      rintro en w4 ⟨rfl, q, rfl⟩
      have hb6 := below_drewN hb3 q
      go_wp2
      go_ret
      exact ⟨rfl, hb6⟩
  · have HL : Hid (∀ w, Calls Tryz.prog 18 #[.string im, .string p, .int .i64 kk] w fun e w' => e = .returned (.tuple #[.slice none 0 0, .int .i64 (patE p)]) ∧ Below w.heap.size w w') := fun w => (wrong_any im p kk w hp).mono (fun e w' hh => by
      rcases hh with ⟨⟨h, _⟩ | ⟨_, _, he⟩ | ⟨_, h, _⟩ | ⟨_, h, _⟩, hb⟩
      · exact absurd hR h
      · exact ⟨he, hb⟩
      · exact absurd h hsz
      · exact absurd h hsz)
    have HW : Hid (∀ w, Calls Tryz.prog 31 #[.string s, .string p, .int .i64 kk] w fun e w' => e = .returned (.tuple #[.slice none 0 0, .int .i64 (patE p)]) ∧ w' = w) := fun w => refWrong_badP s p kk w hp hsz
    have HSM : Hid (∀ w, Calls Tryz.prog 32 #[.slice none 0 0, .slice none 0 0] w fun e w' => e = .returned (.bool true) ∧ ∃ m, w' = w.drewN m) := fun w => same_true (.slice none 0 0) (.slice none 0 0) 0 (fun _ => 0) w (by decide) ⟨none, 0, rfl, fun h => by omega⟩ ⟨none, 0, rfl, fun h => by omega⟩
    clear hR ht hp hsz
    generalize patE p = E at *
    go_enter Tryz.func10, Tryz.ntmps10
    go_wp2_with fail
    refine Calls.mono (HL.out _) ?_
    clear HL
    rintro en w2 ⟨rfl, hb3⟩
    go_wp2_with fail
    refine Calls.mono (HW.out w2) ?_
    clear HW
    rintro en w3 ⟨rfl, rfl⟩
    go_wp2_with fail
    refine Calls.mono (HSM.out _) ?_
    clear HSM
    rintro en w4 ⟨rfl, q, rfl⟩
    have hb6 := below_drewN hb3 q
    have q1 : (E == E) = true := by simp
    go_wp2
    go_ret
    exact ⟨rfl, hb6⟩
end Go.Proofs.YtkebgnpifmcmaabGreat
