import Derived.Test.YtkebgnpifmcmaaaGM
import Derived.Test.YtkebgnpifmcmaaaGM
namespace Go.Proofs.Ytkebgnpifmcmaaa
open Go.RowKit

set_option maxRecDepth 10000 in
set_option maxHeartbeats 8000000 in
theorem walked_walk (a0 : ByteArray) (a1 a2 : Int) (ao : Option Addr) (len cap : Nat) (zs : Nat → Int) (w0 : a0.size ≤ maxLen) (w1 : (Lit.int .i64 a1).wf = true) (w2 : (Lit.int .i64 a2).wf = true) (w : World) (_hlen : len ≤ maxLen)
    (hao : ao = none → len = 0) (hcell : ∀ a, ao = some a → ∀ i, i < len → w.cell? (a.add i) = some (.int .i64 (zs i))) (hzw : ∀ i, i < len → (Lit.int .i64 (zs i)).wf = true) :
    Calls Try.prog 11 #[.string a0, .int .i64 a1, .int .i64 a2, .slice ao len cap] w fun e w' => e = .returned (.bool true) ∧ Below w.heap.size w w' := by
  have HB : Hid _ := building_any w
  have HSH : Hid (∀ w, Calls Try.prog 21 #[.string a0, .int .i64 300] w fun e w' => ∃ s', e = .returned (.string s') ∧ (s'.size : Int) ≤ 300 ∧ w = w') := fun w => short_any a0 300 w (by decide) (by decide) w0
  have HCELL : Hid (∀ a, ao = some a → ∀ i, i < len → w.cell? (a.add i) = some (.int .i64 (zs i))) := hcell
  have HAO : Hid (ao = none → len = 0) := hao
  have HZW : Hid (∀ i, i < len → (Lit.int .i64 (zs i)).wf = true) := hzw
  unfold maxLen at _hlen
  clear hcell hao hzw
  go_enter Try.func11, Try.ntmps11
  go_wp2_with fail
  refine Calls.mono HB.out ?_
  clear HB
  rintro en wa ⟨rfl, hb1⟩
  go_wp2_with fail
  refine Calls.mono (HSH.out wa) ?_
  clear HSH
  rintro en wb ⟨s, rfl, hs, rfl⟩
  have hs2 : s.size ≤ 300 := by omega
  clear hs
  have HIM : Hid _ := image_keep s a1 wa (by omega) w1
  go_wp2_with fail
  refine Calls.mono HIM.out ?_
  clear HIM
  rintro en wc ⟨im, hI, rfl, hb2⟩
  have hb3 := hb1.trans (hb2.mono hb1.size)
  clear hb1 hb2
  have HIMG : Hid (Img im s (1 + pickN a1 64)) := hI
  clear hI
  have HSU : Hid _ := suffixes_ok s wc (by omega)
  go_wp2_with fail
  refine Calls.mono HSU.out ?_
  clear HSU
  rintro en wd ⟨gl, cl, f, rfl, hgl, hcl1, hcl2, hrow, hb4, hsa⟩
  have HSA : Hid (IsSA (tx s) f) := hsa
  have hgl2 : w.heap.size ≤ gl := Nat.le_trans hb3.size hgl
  have hb5 := hb3.trans (hb4.mono hb3.size)
  clear hb3 hb4 hsa hgl
  have hpl := pickN_lt a2 (n := s.size + 1) (by omega)
  have HPK : Hid (∀ w, Calls Try.prog 30 #[.int .i64 a2, .int .i64 ((s.size : Int) + 1)] w fun e w' => e = .returned (.int .i64 (pickN a2 (s.size + 1) : Int)) ∧ w' = w) := fun w => pick_any a2 (s.size + 1) w w2 (by omega) (by omega)
  generalize pickN a2 (s.size + 1) = q0 at *
  go_wp2_with fail
  refine Calls.mono (HPK.out wd) ?_
  clear HPK
  rintro en we ⟨rfl, rfl⟩
  have kp := Blk.new we 40 #[.int .i64 0, .int .i64 ((s.size : Int) + 1), .int .i64 0]
  have hrow1 := hrow.alloc (.cells #[.int .i64 0, .int .i64 ((s.size : Int) + 1), .int .i64 0] 40)
  have hb6 := hb5.alloc hb5.size (.cells #[.int .i64 0, .int .i64 ((s.size : Int) + 1), .int .i64 0] 40)
  have hgl3 := hrow.lt
  have hgp : w.heap.size ≤ we.heap.size := hb5.size
  clear hrow hb5
  have HNIL : Hid ((LO (tx s) (pc (tx s) q0 q0) : Int) = 0 ∧ (HI (tx s) (pc (tx s) q0 q0) : Int) = (s.size : Int) + 1 ∧ (BK (tx s) (pc (tx s) q0 q0) : Int) = 0) := by
    show _ ∧ _ ∧ _
    rw [pc_nil, LO_nil, HI_nil, BK_nil, tx_length]
    exact ⟨rfl, by omega, rfl⟩
  go_wp2_with fail
  generalize we.alloc (.cells #[.int .i64 0, .int .i64 ((s.size : Int) + 1), .int .i64 0] 40) = W0 at *
  generalize we.heap.size = gp at *
  go_loopw [15, 16, 18, 19, 20, 21, 22, 23, 24] (fun lo hi i _ _ _ _ _ _ wr => ∃ k a b : Nat, k ≤ 12 ∧ a ≤ b ∧ b ≤ s.size ∧ i = .int .i64 (k : Int) ∧ lo = .int .i64 (a : Int) ∧ hi = .int .i64 (b : Int) ∧ Blk wr gp 40 #[.int .i64 (LO (tx s) (pc (tx s) a b) : Int), .int .i64 (HI (tx s) (pc (tx s) a b) : Int), .int .i64 (BK (tx s) (pc (tx s) a b) : Int)] ∧ Row wr gl 3 (s.size + 1) (IN f) ∧ Below w.heap.size w wr) (fun _ _ i _ _ _ _ _ _ _ => 13 - (intOf i).toNat)
  case atStart => exact ⟨0, q0, q0, by omega, Nat.le_refl _, by omega, rfl, rfl, rfl, by rw [HNIL.out.1, HNIL.out.2.1, HNIL.out.2.2]; exact kp, hrow1, hb6⟩
  case round =>
    clear kp hrow1 hb6 HNIL
    obtain ⟨k, a, b, hk, hab, hbs, rfl, rfl, rfl, kp, hrow, hb⟩ := hrel
    by_cases hkl : k < len ∧ k < 12
    case neg =>
      by_cases hk1 : k < len
      · have d1 : decide ((k : Int) < (len : Int)) = true := by simp only [decide_eq_true_eq]; omega
        have d2 : decide ((k : Int) < 12) = false := by simp only [decide_eq_false_iff_not]; omega
        go_wp2
        go_ret
        exact ⟨rfl, hb⟩
      · have d1 : decide ((k : Int) < (len : Int)) = false := by simp only [decide_eq_false_iff_not]; omega
        go_wp2
        go_ret
        exact ⟨rfl, hb⟩
    case pos =>
      obtain ⟨hk1, hk2⟩ := hkl
      obtain ⟨ad, rfl⟩ : ∃ ad, ao = some ad := by
        cases ao with
        | none => have := HAO.out rfl; omega
        | some ad => exact ⟨ad, rfl⟩
      have hza : wr.cell? (ad.add k) = some (.int .i64 (zs k)) := cell_below' (HCELL.out ad rfl k hk1) hb
      have hzb := wf_bounds (HZW.out k hk1)
      have d1 : decide ((k : Int) < (len : Int)) = true := by simp only [decide_eq_true_eq]; omega
      have d2 : decide ((k : Int) < 12) = true := by simp only [decide_eq_true_eq]; omega
      have HALN : Hid (∀ (a b : Nat) w, Calls Try.prog 33 #[.string im, .string (s.extract a b), .agg #[.int .i64 (LO (tx s) (pc (tx s) a b) : Int), .int .i64 (HI (tx s) (pc (tx s) a b) : Int), .int .i64 (BK (tx s) (pc (tx s) a b) : Int)], .int .i64 ((s.size : Int) + 1)] w fun e w' => e = .returned (.bool true) ∧ Below w.heap.size w w') := fun a b w => by
        have := alone_any HIMG.out (s.extract a b) w (Nat.le_trans (ext_le s a b) (by omega))
        rw [tx_ext] at this
        exact this
      have HPLC : Hid (∀ (a b : Nat) w, Calls Try.prog 34 #[.string s, .string (s.extract a b)] w fun e w' => ∃ v, e = .returned v ∧ OwnL w' w.heap.size v (filt (stP (tx s) (pc (tx s) a b)) (s.size + 1)) ∧ Below w.heap.size w w') := fun a b w => by
        have := places_any s (s.extract a b) w (by omega) (Nat.le_trans (ext_le s a b) (by omega))
        rw [tx_ext] at this
        exact this
      have HSTD : Hid (∀ (a b i : Nat) w, i ≤ s.size → Calls Try.prog 35 #[.string s, .string (s.extract a b), .int .i64 (i : Int)] w fun e w' => e = .returned (.bool (stP (tx s) (pc (tx s) a b) i)) ∧ w' = w) := fun a b i w h => by
        have := stands_any s (s.extract a b) i w (by omega) (Nat.le_trans (ext_le s a b) (by omega)) h
        rw [tx_ext] at this
        exact this
      have HNSL : Hid (∀ P, HI (tx s) P = LO (tx s) P + (filt (stP (tx s) P) (s.size + 1)).length) := fun P => by rw [filt_length, HI_eq, NS, tx_length]
      have HHI : Hid (∀ P, HI (tx s) P ≤ s.size + 1) := fun P => by have := HI_le (tx s) P; rw [tx_length] at this; exact this
      have HROW : Hid (∀ P r, r < s.size + 1 → LO (tx s) P ≤ r → r < HI (tx s) P → stP (tx s) P (f r) = true) := fun P r h h1 h2 => (row_in HSA.out P r (by rw [tx_length]; exact h)).1 ⟨h1, h2⟩
      have HFL : Hid (∀ r, r < s.size + 1 → f r ≤ s.size) := fun r h => by have := HSA.out.le r (by rw [tx_length]; omega); rw [tx_length] at this; exact this
      have HWS : IntKind.i64.wrap ((s.size : Int) + 1) = (s.size : Int) + 1 := wrapI_small (by omega) (by omega)
      have hgl4 := hrow.lt
      have kpl := kp.lt
      by_cases hr : (zs k).tmod 2 = 0
      · have dr : ((zs k).tmod 2 == 0) = true := by simpa using hr
        by_cases hbn : b = s.size
        · have e1 : ((b : Int) == (s.size : Int)) = true := by rw [hbn]; simp
          go_wp2
          go_roundw
          case rel => exact ⟨k + 1, a, b, by omega, hab, hbs, by go_num, rfl, rfl, kp, hrow, hb⟩
          case measure => simp [intOf]; omega
        · have e1 : ((b : Int) == (s.size : Int)) = false := by simp; omega
          have hidx : b < s.size := by omega
          have hby := (s[b]).toNat_lt
          have HWB : IntKind.i64.wrap ((s[b]).toNat : Int) = ((s[b]).toNat : Int) := wrapI_small (by omega) (by omega)
          have HNX : Hid (pc (tx s) a (b + 1) = pc (tx s) a b ++ [s[b]]) := by
            show _ = _
            rw [pc_snoc (tx s) a b hab (by rw [tx_length]; exact hidx), tx_getD s b hidx]
          have HRT : Hid _ := right_pair HIMG.out (pc (tx s) a b) s[b] wr.drew
          rw [← HNX.out] at HRT
          have p0 : wr.cell? ⟨gp, 0, none⟩ = some (.int .i64 (LO (tx s) (pc (tx s) a b) : Int)) := kp.cell 0
          have p1 : wr.cell? ⟨gp, 1, none⟩ = some (.int .i64 (HI (tx s) (pc (tx s) a b) : Int)) := kp.cell 1
          have p2 : wr.cell? ⟨gp, 2, none⟩ = some (.int .i64 (BK (tx s) (pc (tx s) a b) : Int)) := kp.cell 2
          have kp' : Blk wr.drew gp 40 #[.int .i64 (LO (tx s) (pc (tx s) a b) : Int), .int .i64 (HI (tx s) (pc (tx s) a b) : Int), .int .i64 (BK (tx s) (pc (tx s) a b) : Int)] := kp
          have hr' : Row wr.drew gl 3 (s.size + 1) (IN f) := hrow
          have hb' : Below w.heap.size w wr.drew := hb.drew
          have hS1 : (0 : Int) ≤ (b : Int) + 1 := by omega
          have hS2 : (b : Int) + 1 ≤ (s.size : Int) := by omega
          have hS3 : (a : Int) ≤ (b : Int) + 1 := by omega
          clear kp hrow hb
          go_upto_region 17 with fail
          go_region_law (first
            | (refine step_calls (args := #[.string im, .agg #[.int .i64 (LO (tx s) (pc (tx s) a b) : Int), .int .i64 (HI (tx s) (pc (tx s) a b) : Int), .int .i64 (BK (tx s) (pc (tx s) a b) : Int)], .int .i64 ((s[b]).toNat : Int)]) rfl rfl enterRight (by first | (simp [Act.eval, Act.put]; done) | (simp [Act.eval, Act.put]; exact HWB)) HRT.out ?_; rintro en w2 ⟨rfl, hb2⟩; refine ⟨_, rfl, ?_⟩; have kp2 := kp'.below hb2 kp'.lt; have hr2 := hr'.below hb2 hr'.lt; have hb1 := hb'.trans (hb2.mono hb'.size); have f0 := kp2.free 0; have f1 := kp2.free 1; have f2 := kp2.free 2; have g0 := kp2.cell 0; have g1 := kp2.cell 1; have g2 := kp2.cell 2))
          all_goals have kp3 : Blk (((w2.setCell ⟨gp, 0, none⟩ (.int .i64 (LO (tx s) (pc (tx s) a (b + 1)) : Int))).setCell ⟨gp, 1, none⟩ (.int .i64 (HI (tx s) (pc (tx s) a (b + 1)) : Int))).setCell ⟨gp, 2, none⟩ (.int .i64 (BK (tx s) (pc (tx s) a (b + 1)) : Int))) gp 40 #[.int .i64 (LO (tx s) (pc (tx s) a (b + 1)) : Int), .int .i64 (HI (tx s) (pc (tx s) a (b + 1)) : Int), .int .i64 (BK (tx s) (pc (tx s) a (b + 1)) : Int)] := ((kp2.set 0 _).set 1 _).set 2 _
          all_goals have hr3 : Row (((w2.setCell ⟨gp, 0, none⟩ (.int .i64 (LO (tx s) (pc (tx s) a (b + 1)) : Int))).setCell ⟨gp, 1, none⟩ (.int .i64 (HI (tx s) (pc (tx s) a (b + 1)) : Int))).setCell ⟨gp, 2, none⟩ (.int .i64 (BK (tx s) (pc (tx s) a (b + 1)) : Int))) gl 3 (s.size + 1) (IN f) := ((hr2.setOther (by show gl ≠ gp; omega) _).setOther (by show gl ≠ gp; omega) _).setOther (by show gl ≠ gp; omega) _
          all_goals have hb3 : Below w.heap.size w (((w2.setCell ⟨gp, 0, none⟩ (.int .i64 (LO (tx s) (pc (tx s) a (b + 1)) : Int))).setCell ⟨gp, 1, none⟩ (.int .i64 (HI (tx s) (pc (tx s) a (b + 1)) : Int))).setCell ⟨gp, 2, none⟩ (.int .i64 (BK (tx s) (pc (tx s) a (b + 1)) : Int))) := ((hb1.setCell hgp _).setCell hgp _).setCell hgp _
          all_goals clear kp2 hr2 hb1 kp' hr' hb' p0 p1 p2
          all_goals go_wp2_with fail
          all_goals clear f0 f1 f2 g0 g1 g2
          all_goals generalize ((w2.setCell ⟨gp, 0, none⟩ (.int .i64 (LO (tx s) (pc (tx s) a (b + 1)) : Int))).setCell ⟨gp, 1, none⟩ (.int .i64 (HI (tx s) (pc (tx s) a (b + 1)) : Int))).setCell ⟨gp, 2, none⟩ (.int .i64 (BK (tx s) (pc (tx s) a (b + 1)) : Int)) = w3 at *
          all_goals
            have HAL : Hid _ := HALN.out a (b + 1) w3.drew
            have HPC : Hid _ := HPLC.out a (b + 1)
            have HST : Hid _ := HSTD.out a (b + 1)
            have p0 : w3.cell? ⟨gp, 0, none⟩ = some (.int .i64 (LO (tx s) (pc (tx s) a (b + 1)) : Int)) := kp3.cell 0
            have p1 : w3.cell? ⟨gp, 1, none⟩ = some (.int .i64 (HI (tx s) (pc (tx s) a (b + 1)) : Int)) := kp3.cell 1
            have p2 : w3.cell? ⟨gp, 2, none⟩ = some (.int .i64 (BK (tx s) (pc (tx s) a (b + 1)) : Int)) := kp3.cell 2
            have kp3' : Blk w3.drew gp 40 #[.int .i64 (LO (tx s) (pc (tx s) a (b + 1)) : Int), .int .i64 (HI (tx s) (pc (tx s) a (b + 1)) : Int), .int .i64 (BK (tx s) (pc (tx s) a (b + 1)) : Int)] := kp3
            have hr3' : Row w3.drew gl 3 (s.size + 1) (IN f) := hr3
            have hb3' : Below w.heap.size w w3.drew := hb3.drew
            clear HALN HPLC HSTD kp3 hr3 hb3
            go_upto_region 21 with fail
            go_region_law (first
              | (refine step_calls (args := #[.string im, .string (s.extract a (b + 1)), .agg #[.int .i64 (LO (tx s) (pc (tx s) a (b + 1)) : Int), .int .i64 (HI (tx s) (pc (tx s) a (b + 1)) : Int), .int .i64 (BK (tx s) (pc (tx s) a (b + 1)) : Int)], .int .i64 ((s.size : Int) + 1)]) rfl rfl enterAlone (by first | (simp [Act.eval]; done) | (simp [Act.eval]; exact HWS)) HAL.out ?_; rintro en w4 ⟨rfl, hb4⟩; refine ⟨_, rfl, ?_⟩; have kp4 := kp3'.below hb4 kp3'.lt; have hr4 := hr3'.below hb4 hr3'.lt; have hb5 := hb3'.trans (hb4.mono hb3'.size)))
            all_goals clear HAL kp3' hr3' hb3' p0 p1 p2
            all_goals go_wp2_with fail
            all_goals refine Calls.mono (HPC.out w4) ?_
            all_goals clear HPC
            all_goals rintro en w5 ⟨v, rfl, hown, hb6⟩
            all_goals obtain ⟨av, cv, rfl, _⟩ := OwnL.shape hown
            all_goals have kp5 := kp4.below hb6 kp4.lt
            all_goals have hr5 := hr4.below hb6 hr4.lt
            all_goals have hb7 := hb5.trans (hb6.mono hb5.size)
            all_goals clear kp4 hr4 hb5 hb6 hown
            all_goals have p0 : w5.cell? ⟨gp, 0, none⟩ = some (.int .i64 (LO (tx s) (pc (tx s) a (b + 1)) : Int)) := kp5.cell 0
            all_goals have p1 : w5.cell? ⟨gp, 1, none⟩ = some (.int .i64 (HI (tx s) (pc (tx s) a (b + 1)) : Int)) := kp5.cell 1
            all_goals have hns : HI (tx s) (pc (tx s) a (b + 1)) = LO (tx s) (pc (tx s) a (b + 1)) + (filt (stP (tx s) (pc (tx s) a (b + 1))) (s.size + 1)).length := HNSL.out (pc (tx s) a (b + 1))
            all_goals have hhi : HI (tx s) (pc (tx s) a (b + 1)) ≤ s.size + 1 := HHI.out (pc (tx s) a (b + 1))
            all_goals generalize hLL : LO (tx s) (pc (tx s) a (b + 1)) = L at *
            all_goals generalize hUU : HI (tx s) (pc (tx s) a (b + 1)) = U at *
            all_goals generalize (filt (stP (tx s) (pc (tx s) a (b + 1))) (s.size + 1)).length = m at *
            all_goals have d5 : ((U : Int) - (L : Int) != (m : Int)) = false := by simp; omega
            all_goals have hLU : L ≤ U := by omega
            all_goals have HIN : Hid (∀ r, L ≤ r → r < U → stP (tx s) (pc (tx s) a (b + 1)) (f r) = true) := fun r h1 h2 => HROW.out (pc (tx s) a (b + 1)) r (by omega) (by omega) (by omega)
            all_goals have HLU : Hid (LO (tx s) (pc (tx s) a (b + 1)) = L ∧ HI (tx s) (pc (tx s) a (b + 1)) = U) := ⟨hLL, hUU⟩
            all_goals clear hLL hUU hns
            all_goals have d7 : decide ((s.size : Int) + 1 < (U : Int)) = false := by simp only [decide_eq_false_iff_not]; omega
            all_goals go_wp2_with fail
            all_goals
              go_loopw [23, 24] (fun rv _ wq => ∃ r q : Nat, L ≤ r ∧ r ≤ U ∧ rv = .int .i64 (r : Int) ∧ wq = w5.drewN q) (fun rv _ _ => U - (intOf rv).toNat)
              case atStart => exact ⟨L, 0, Nat.le_refl _, by omega, rfl, rfl⟩
              case round =>
                obtain ⟨r, q, hr1, hr2, rfl, rfl⟩ := hrel
                by_cases hrl : r < U
                · have hcr := hr5.cell (show r < s.size + 1 by omega)
                  rw [IN_at] at hcr
                  have hyes := HIN.out r hr1 hrl
                  have hfr : f r ≤ s.size := HFL.out r (by omega)
                  have hri : (r : Int) < (s.size : Int) + 1 := by omega
                  have HSC : Hid (∀ w, Calls Try.prog 35 #[.string s, .string (s.extract a (b + 1)), .int .i64 (f r : Int)] w fun e w' => e = .returned (.bool true) ∧ w' = w) := fun w => by
                    have := HST.out (f r) w hfr
                    rw [hyes] at this
                    exact this
                  clear hyes
                  have hcq : (w5.drewN q).cell? ⟨gl, r, none⟩ = some (.int .i64 (f r : Int)) := hcr
                  have pq1 : (w5.drewN q).cell? ⟨gp, 1, none⟩ = some (.int .i64 (U : Int)) := p1
                  generalize hWq : w5.drewN q = Wq at *
                  have HWQ : Hid (w5.drewN q = Wq) := hWq
                  clear hWq hcr p0 p1
                  go_wp2_with fail
                  go_quiet ((go_at_call 35; exact Calls.quiet_of_same (HSC.out _)))
                  go_wp2
                  go_roundw
                  case rel => exact ⟨r + 1, _, by omega, by omega, by go_num, by rw [← HWQ.out, World.drewN_drewN]⟩
                  case measure => simp [intOf]; omega
                · have hru : r = U := by omega
                  subst hru
                  go_wp2
                  go_roundw
                  case rel => exact ⟨k + 1, a, (b + 1), by omega, by omega, by omega, by go_num, rfl, rfl, by rw [HLU.out.1, HLU.out.2]; exact kp5, hr5, below_drewN hb7 _⟩
                  case measure => simp [intOf]; omega
      · have dr : ((zs k).tmod 2 == 0) = false := by simpa using hr
        by_cases ha0 : a = 0
        · have e1 : ((a : Int) == 0) = true := by rw [ha0]; simp
          go_wp2
          go_roundw
          case rel => exact ⟨k + 1, a, b, by omega, hab, hbs, by go_num, rfl, rfl, kp, hrow, hb⟩
          case measure => simp [intOf]; omega
        · have e1 : ((a : Int) == 0) = false := by simp; omega
          obtain ⟨a', rfl⟩ : ∃ a', a = a' + 1 := ⟨a - 1, by omega⟩
          have e2 : (((a' + 1 : Nat) : Int) - 1) = (a' : Int) := by omega
          have e3 : (((a' : Int) + 1) - 1) = (a' : Int) := by omega
          have hidx : a' < s.size := by omega
          have hby := (s[a']).toNat_lt
          have HWB : IntKind.i64.wrap ((s[a']).toNat : Int) = ((s[a']).toNat : Int) := wrapI_small (by omega) (by omega)
          have HNX : Hid (pc (tx s) a' b = s[a'] :: pc (tx s) (a' + 1) b) := by
            show _ = _
            rw [pc_cons (tx s) a' b (by omega) (by rw [tx_length]; exact hbs), tx_getD s a' hidx]
          have HRT : Hid _ := left_pair HIMG.out (pc (tx s) (a' + 1) b) s[a'] wr.drew
          rw [← HNX.out] at HRT
          have p0 : wr.cell? ⟨gp, 0, none⟩ = some (.int .i64 (LO (tx s) (pc (tx s) (a' + 1) b) : Int)) := kp.cell 0
          have p1 : wr.cell? ⟨gp, 1, none⟩ = some (.int .i64 (HI (tx s) (pc (tx s) (a' + 1) b) : Int)) := kp.cell 1
          have p2 : wr.cell? ⟨gp, 2, none⟩ = some (.int .i64 (BK (tx s) (pc (tx s) (a' + 1) b) : Int)) := kp.cell 2
          have kp' : Blk wr.drew gp 40 #[.int .i64 (LO (tx s) (pc (tx s) (a' + 1) b) : Int), .int .i64 (HI (tx s) (pc (tx s) (a' + 1) b) : Int), .int .i64 (BK (tx s) (pc (tx s) (a' + 1) b) : Int)] := kp
          have hr' : Row wr.drew gl 3 (s.size + 1) (IN f) := hrow
          have hb' : Below w.heap.size w wr.drew := hb.drew
          have hS3 : a' ≤ b := by omega
          clear kp hrow hb
          go_upto_region 20 with fail
          go_region_law (first
            | (refine step_calls (args := #[.string im, .agg #[.int .i64 (LO (tx s) (pc (tx s) (a' + 1) b) : Int), .int .i64 (HI (tx s) (pc (tx s) (a' + 1) b) : Int), .int .i64 (BK (tx s) (pc (tx s) (a' + 1) b) : Int)], .int .i64 ((s[a']).toNat : Int)]) rfl rfl enterLeft (by first | (simp [Act.eval, Act.put]; done) | (simp [Act.eval, Act.put]; exact HWB)) HRT.out ?_; rintro en w2 ⟨rfl, hb2⟩; refine ⟨_, rfl, ?_⟩; have kp2 := kp'.below hb2 kp'.lt; have hr2 := hr'.below hb2 hr'.lt; have hb1 := hb'.trans (hb2.mono hb'.size); have f0 := kp2.free 0; have f1 := kp2.free 1; have f2 := kp2.free 2; have g0 := kp2.cell 0; have g1 := kp2.cell 1; have g2 := kp2.cell 2))
          all_goals have kp3 : Blk (((w2.setCell ⟨gp, 0, none⟩ (.int .i64 (LO (tx s) (pc (tx s) a' b) : Int))).setCell ⟨gp, 1, none⟩ (.int .i64 (HI (tx s) (pc (tx s) a' b) : Int))).setCell ⟨gp, 2, none⟩ (.int .i64 (BK (tx s) (pc (tx s) a' b) : Int))) gp 40 #[.int .i64 (LO (tx s) (pc (tx s) a' b) : Int), .int .i64 (HI (tx s) (pc (tx s) a' b) : Int), .int .i64 (BK (tx s) (pc (tx s) a' b) : Int)] := ((kp2.set 0 _).set 1 _).set 2 _
          all_goals have hr3 : Row (((w2.setCell ⟨gp, 0, none⟩ (.int .i64 (LO (tx s) (pc (tx s) a' b) : Int))).setCell ⟨gp, 1, none⟩ (.int .i64 (HI (tx s) (pc (tx s) a' b) : Int))).setCell ⟨gp, 2, none⟩ (.int .i64 (BK (tx s) (pc (tx s) a' b) : Int))) gl 3 (s.size + 1) (IN f) := ((hr2.setOther (by show gl ≠ gp; omega) _).setOther (by show gl ≠ gp; omega) _).setOther (by show gl ≠ gp; omega) _
          all_goals have hb3 : Below w.heap.size w (((w2.setCell ⟨gp, 0, none⟩ (.int .i64 (LO (tx s) (pc (tx s) a' b) : Int))).setCell ⟨gp, 1, none⟩ (.int .i64 (HI (tx s) (pc (tx s) a' b) : Int))).setCell ⟨gp, 2, none⟩ (.int .i64 (BK (tx s) (pc (tx s) a' b) : Int))) := ((hb1.setCell hgp _).setCell hgp _).setCell hgp _
          all_goals clear kp2 hr2 hb1 kp' hr' hb' p0 p1 p2
          all_goals go_wp2_with fail
          all_goals clear f0 f1 f2 g0 g1 g2
          all_goals generalize ((w2.setCell ⟨gp, 0, none⟩ (.int .i64 (LO (tx s) (pc (tx s) a' b) : Int))).setCell ⟨gp, 1, none⟩ (.int .i64 (HI (tx s) (pc (tx s) a' b) : Int))).setCell ⟨gp, 2, none⟩ (.int .i64 (BK (tx s) (pc (tx s) a' b) : Int)) = w3 at *
          all_goals
            have HAL : Hid _ := HALN.out a' b w3.drew
            have HPC : Hid _ := HPLC.out a' b
            have HST : Hid _ := HSTD.out a' b
            have p0 : w3.cell? ⟨gp, 0, none⟩ = some (.int .i64 (LO (tx s) (pc (tx s) a' b) : Int)) := kp3.cell 0
            have p1 : w3.cell? ⟨gp, 1, none⟩ = some (.int .i64 (HI (tx s) (pc (tx s) a' b) : Int)) := kp3.cell 1
            have p2 : w3.cell? ⟨gp, 2, none⟩ = some (.int .i64 (BK (tx s) (pc (tx s) a' b) : Int)) := kp3.cell 2
            have kp3' : Blk w3.drew gp 40 #[.int .i64 (LO (tx s) (pc (tx s) a' b) : Int), .int .i64 (HI (tx s) (pc (tx s) a' b) : Int), .int .i64 (BK (tx s) (pc (tx s) a' b) : Int)] := kp3
            have hr3' : Row w3.drew gl 3 (s.size + 1) (IN f) := hr3
            have hb3' : Below w.heap.size w w3.drew := hb3.drew
            clear HALN HPLC HSTD kp3 hr3 hb3
            go_upto_region 21 with fail
            go_region_law (first
              | (refine step_calls (args := #[.string im, .string (s.extract a' b), .agg #[.int .i64 (LO (tx s) (pc (tx s) a' b) : Int), .int .i64 (HI (tx s) (pc (tx s) a' b) : Int), .int .i64 (BK (tx s) (pc (tx s) a' b) : Int)], .int .i64 ((s.size : Int) + 1)]) rfl rfl enterAlone (by first | (simp [Act.eval]; done) | (simp [Act.eval]; exact HWS)) HAL.out ?_; rintro en w4 ⟨rfl, hb4⟩; refine ⟨_, rfl, ?_⟩; have kp4 := kp3'.below hb4 kp3'.lt; have hr4 := hr3'.below hb4 hr3'.lt; have hb5 := hb3'.trans (hb4.mono hb3'.size)))
            all_goals clear HAL kp3' hr3' hb3' p0 p1 p2
            all_goals go_wp2_with fail
            all_goals refine Calls.mono (HPC.out w4) ?_
            all_goals clear HPC
            all_goals rintro en w5 ⟨v, rfl, hown, hb6⟩
            all_goals obtain ⟨av, cv, rfl, _⟩ := OwnL.shape hown
            all_goals have kp5 := kp4.below hb6 kp4.lt
            all_goals have hr5 := hr4.below hb6 hr4.lt
            all_goals have hb7 := hb5.trans (hb6.mono hb5.size)
            all_goals clear kp4 hr4 hb5 hb6 hown
            all_goals have p0 : w5.cell? ⟨gp, 0, none⟩ = some (.int .i64 (LO (tx s) (pc (tx s) a' b) : Int)) := kp5.cell 0
            all_goals have p1 : w5.cell? ⟨gp, 1, none⟩ = some (.int .i64 (HI (tx s) (pc (tx s) a' b) : Int)) := kp5.cell 1
            all_goals have hns : HI (tx s) (pc (tx s) a' b) = LO (tx s) (pc (tx s) a' b) + (filt (stP (tx s) (pc (tx s) a' b)) (s.size + 1)).length := HNSL.out (pc (tx s) a' b)
            all_goals have hhi : HI (tx s) (pc (tx s) a' b) ≤ s.size + 1 := HHI.out (pc (tx s) a' b)
            all_goals generalize hLL : LO (tx s) (pc (tx s) a' b) = L at *
            all_goals generalize hUU : HI (tx s) (pc (tx s) a' b) = U at *
            all_goals generalize (filt (stP (tx s) (pc (tx s) a' b)) (s.size + 1)).length = m at *
            all_goals have d5 : ((U : Int) - (L : Int) != (m : Int)) = false := by simp; omega
            all_goals have hLU : L ≤ U := by omega
            all_goals have HIN : Hid (∀ r, L ≤ r → r < U → stP (tx s) (pc (tx s) a' b) (f r) = true) := fun r h1 h2 => HROW.out (pc (tx s) a' b) r (by omega) (by omega) (by omega)
            all_goals have HLU : Hid (LO (tx s) (pc (tx s) a' b) = L ∧ HI (tx s) (pc (tx s) a' b) = U) := ⟨hLL, hUU⟩
            all_goals clear hLL hUU hns
            all_goals have d7 : decide ((s.size : Int) + 1 < (U : Int)) = false := by simp only [decide_eq_false_iff_not]; omega
            all_goals go_wp2_with fail
            all_goals
              go_loopw [23, 24] (fun rv _ wq => ∃ r q : Nat, L ≤ r ∧ r ≤ U ∧ rv = .int .i64 (r : Int) ∧ wq = w5.drewN q) (fun rv _ _ => U - (intOf rv).toNat)
              case atStart => exact ⟨L, 0, Nat.le_refl _, by omega, rfl, rfl⟩
              case round =>
                obtain ⟨r, q, hr1, hr2, rfl, rfl⟩ := hrel
                by_cases hrl : r < U
                · have hcr := hr5.cell (show r < s.size + 1 by omega)
                  rw [IN_at] at hcr
                  have hyes := HIN.out r hr1 hrl
                  have hfr : f r ≤ s.size := HFL.out r (by omega)
                  have hri : (r : Int) < (s.size : Int) + 1 := by omega
                  have HSC : Hid (∀ w, Calls Try.prog 35 #[.string s, .string (s.extract a' b), .int .i64 (f r : Int)] w fun e w' => e = .returned (.bool true) ∧ w' = w) := fun w => by
                    have := HST.out (f r) w hfr
                    rw [hyes] at this
                    exact this
                  clear hyes
                  have hcq : (w5.drewN q).cell? ⟨gl, r, none⟩ = some (.int .i64 (f r : Int)) := hcr
                  have pq1 : (w5.drewN q).cell? ⟨gp, 1, none⟩ = some (.int .i64 (U : Int)) := p1
                  generalize hWq : w5.drewN q = Wq at *
                  have HWQ : Hid (w5.drewN q = Wq) := hWq
                  clear hWq hcr p0 p1
                  go_wp2_with fail
                  go_quiet ((go_at_call 35; exact Calls.quiet_of_same (HSC.out _)))
                  go_wp2
                  go_roundw
                  case rel => exact ⟨r + 1, _, by omega, by omega, by go_num, by rw [← HWQ.out, World.drewN_drewN]⟩
                  case measure => simp [intOf]; omega
                · have hru : r = U := by omega
                  subst hru
                  go_wp2
                  go_roundw
                  case rel => exact ⟨k + 1, a', b, by omega, by omega, by omega, by go_num, rfl, rfl, by rw [HLU.out.1, HLU.out.2]; exact kp5, hr5, below_drewN hb7 _⟩
                  case measure => simp [intOf]; omega
end Go.Proofs.Ytkebgnpifmcmaaa
