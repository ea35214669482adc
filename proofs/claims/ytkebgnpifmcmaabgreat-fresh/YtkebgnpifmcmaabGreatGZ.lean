import Derived.Test.YtkebgnpifmcmaabGreatGW
import Derived.Test.YtkebgnpifmcmaabGreatGB
import Derived.Test.YtkebgnpifmcmaabGreatGY
import Derived.Test.YtkebgnpifmcmaabGreatGQ
namespace Go.Proofs.YtkebgnpifmcmaabGreat
open Go.RowKit

theorem lev_up (x y : List UInt8) : lev x y ≤ x.length + y.length := by
  have h := (Ed.toNil x).append (Ed.ofNil y)
  rw [List.append_nil, List.nil_append] at h
  exact lev_le h
/-- The rows of the table: the first k bytes of the pattern, and the bytes from place i to place j. -/
def rw_ (t P : List UInt8) (i j k : Nat) : Nat := lev (P.take k) ((t.take j).drop i)
theorem rw_le (t P : List UInt8) (i j k : Nat) (hj : j ≤ t.length) (ht : t.length ≤ 2000) (hP : P.length ≤ 30) : rw_ t P i j k ≤ 2030 := by
  have := lev_up (P.take k) ((t.take j).drop i)
  rw [List.length_take, List.length_drop, List.length_take] at this
  rw [rw_]; omega
theorem rw_start (t P : List UInt8) (i k : Nat) (hk : k ≤ P.length) : rw_ t P i i k = k := by
  rw [rw_, List.drop_take, Nat.sub_self, List.take_zero, lev_nil_right, List.length_take]; omega
theorem cut_next (t : List UInt8) (i j : Nat) (hi : i ≤ j) (hj : j < t.length) : (t.take (j + 1)).drop i = (t.take j).drop i ++ [t.getD j 0] := by
  rw [List.take_succ_eq_append_getElem hj, List.drop_append_of_le_length (by rw [List.length_take]; omega), List.getD_eq_getElem?_getD, List.getElem?_eq_getElem hj]; rfl
theorem rw_zero (t P : List UInt8) (i j : Nat) (hi : i ≤ j) (hj : j < t.length) : rw_ t P i (j + 1) 0 = rw_ t P i j 0 + 1 := by
  rw [rw_, rw_, cut_next t i j hi hj, lev_take_zero]
theorem rw_next (t P : List UInt8) (i j k : Nat) (hi : i ≤ j) (hj : j < t.length) (hk : k < P.length) : rw_ t P i (j + 1) (k + 1) = min (rw_ t P i j k + (if P.getD k 0 = t.getD j 0 then 0 else 1)) (min (rw_ t P i j (k + 1) + 1) (rw_ t P i (j + 1) k + 1)) := by
  rw [rw_, rw_, rw_, rw_, cut_next t i j hi hj, lev_take _ _ _ _ hk]
theorem rw_best (t P : List UInt8) (i j : Nat) (hi : i ≤ j) : bst t P i (j + 1 - i) = min (bst t P i (j - i)) (rw_ t P i (j + 1) P.length) := by
  rw [show j + 1 - i = (j - i) + 1 from by omega, bst, rw_, List.take_length, show i + (j - i) + 1 = j + 1 from by omega]

set_option maxRecDepth 10000 in
set_option maxHeartbeats 4000000 in
/-- One row out of the one before: the loop within. -/
theorem least_any (s p : ByteArray) (i : Nat) (w : World) (hn : s.size ≤ 2000) (h0 : 0 < p.size) (h1 : p.size ≤ 30) (hi : i ≤ s.size) :
    Calls Tryz.prog 57 #[.string s, .string p, .int .i64 (i : Int)] w fun e w' => ∃ D, i + D ≤ s.size ∧ (i + D = s.size ∨ D = 2 * p.size) ∧ e = .returned (.int .i64 ((bst (tx s) (tx p) i D : Nat) : Int)) ∧ Below w.heap.size w w' := by
  obtain ⟨i0, hi0, hz0, hz1, hz2⟩ := info_parts Tryz.info3
  have HST : Hid (∀ k, k ≤ p.size → rw_ (tx s) (tx p) i i k = k) := fun k hk => rw_start _ _ _ _ (by rw [tx_length]; exact hk)
  have HLE : Hid (∀ j k, j ≤ s.size → rw_ (tx s) (tx p) i j k ≤ 2030) := fun j k hj => rw_le _ _ _ _ _ (by rw [tx_length]; exact hj) (by rw [tx_length]; exact hn) (by rw [tx_length]; exact h1)
  have HZE : Hid (∀ j, i ≤ j → j < s.size → rw_ (tx s) (tx p) i (j + 1) 0 = rw_ (tx s) (tx p) i j 0 + 1) := fun j h1 h2 => rw_zero _ _ _ _ h1 (by rw [tx_length]; exact h2)
  have HNX : Hid (∀ j k (h : i ≤ j) (h2 : j < s.size) (h3 : k < p.size), rw_ (tx s) (tx p) i (j + 1) (k + 1) = min (rw_ (tx s) (tx p) i j k + (if p[k] = s[j] then 0 else 1)) (min (rw_ (tx s) (tx p) i j (k + 1) + 1) (rw_ (tx s) (tx p) i (j + 1) k + 1))) := fun j k h1 h2 h3 => by
    have := rw_next (tx s) (tx p) i j k h1 (by rw [tx_length]; exact h2) (by rw [tx_length]; exact h3)
    rw [tx_getD p k h3, tx_getD s j h2] at this
    exact this
  have HBE : Hid (∀ j, i ≤ j → bst (tx s) (tx p) i (j + 1 - i) = min (bst (tx s) (tx p) i (j - i)) (rw_ (tx s) (tx p) i (j + 1) p.size)) := fun j hj => by
    have := rw_best (tx s) (tx p) i j hj
    rw [tx_length] at this
    exact this
  have HB0 : Hid (bst (tx s) (tx p) i 0 = p.size) := tx_length p
  have HBL : Hid (∀ d, bst (tx s) (tx p) i d ≤ 30) := fun d => by
    have := bst_le (tx s) (tx p) i d
    rw [tx_length] at this; omega
  generalize rw_ (tx s) (tx p) i = RW at *
  generalize bst (tx s) (tx p) i = BS at *
  go_enter Tryz.func57, Tryz.ntmps57
  go_wp2_with (at_make; refine wpList_make_full _ rfl _ _ 32 rfl w.heap.size 3 i0 (.int .i64 0) 1 Tryz.underlying32 hi0 hz0 hz1 .i64 .i64 _ _ (p.size + 1) rfl rfl (by omega) (by omega) (by rw [hz2]; omega) (by unfold maxLen; omega) (by omega) ?_; intro w1 hown hgr)
  have hrow := Row.made hown
  have hbel := below_made hgr
  clear hown hgr
  obtain ⟨G, hG⟩ : ∃ G, G = w.heap.size := ⟨_, rfl⟩
  have HG : Hid (G = w.heap.size) := hG
  rw [← hG] at hrow hbel ⊢
  clear hG
  go_loopw [9] (fun iv wr => ∃ k : Nat, k ≤ p.size + 1 ∧ iv = .int .i64 (k : Int) ∧ (∃ f, Row wr G 3 (p.size + 1) (IN f) ∧ Hid (∀ j, j < k → f j = j)) ∧ Below G w wr) (fun iv _ => p.size + 1 - (intOf iv).toNat)
  case atStart => exact ⟨0, Nat.zero_le _, rfl, ⟨fun _ => 0, hrow, fun j hj => by omega⟩, hbel⟩
  case round =>
    clear hrow hbel
    obtain ⟨k, hk, rfl, ⟨f, hr, hf⟩, hb⟩ := hrel
    by_cases hlt : k < p.size + 1
    · have d1 : (k : Int) ≤ (p.size : Int) := by omega
      have hc := hr.cell hlt
      have hfz := hr.free k
      go_wp2
      go_roundw
      case rel => exact ⟨k + 1, by omega, by go_num, ⟨_, hr.setN k k, upd_next hf.out rfl⟩, hb.setCell (Nat.le_refl _) _⟩
      case measure => simp [intOf]; omega
    · have d1 : ¬ (k : Int) ≤ (p.size : Int) := by omega
      have hrS : Row wr G 3 (p.size + 1) (IN (RW i)) := hr.congr (fun j hj => by simp only [IN]; rw [hf.out j (by omega), HST.out j (by omega)])
      have hcm : wr.cell? ⟨G, p.size, none⟩ = some (.int .i64 (p.size : Int)) := by
        have := hrS.cell (show p.size < p.size + 1 by omega)
        rw [IN_at, HST.out p.size (by omega)] at this
        exact this
      clear hr hf
      go_wp2_with fail
      clear hcm
      go_loopw [11, 8, 10, 12, 13] (fun jv rv bv _ _ wr => ∃ (J g8 : Nat), i ≤ J ∧ J ≤ s.size ∧ J ≤ i + 2 * p.size ∧ jv = .int .i64 (J : Int) ∧ rv = .slice (some ⟨g8, 0, none⟩) (p.size + 1) (p.size + 1) ∧ bv = .int .i64 ((BS (J - i) : Nat) : Int) ∧ G ≤ g8 ∧ Row wr g8 3 (p.size + 1) (IN (RW J)) ∧ Below G w wr) (fun jv _ _ _ _ _ => s.size - (intOf jv).toNat)
      case atStart => exact ⟨i, G, Nat.le_refl _, hi, by omega, rfl, rfl, by rw [Nat.sub_self, HB0.out], Nat.le_refl _, hrS, hb⟩
      case round =>
        clear hrS hb
        obtain ⟨J, g8, hJ1, hJ2, hJ3, rfl, rfl, rfl, hg8, hR, hb⟩ := hrel
        by_cases hlt2 : J < s.size ∧ J < i + 2 * p.size
        · have d2 : (J : Int) < (s.size : Int) := by omega
          have d3 : (J : Int) < (i : Int) + 2 * (p.size : Int) := by omega
          have hR0 := HLE.out J 0 hJ2
          have hc0 : wr.cell? ⟨g8, 0, none⟩ = some (.int .i64 (RW J 0 : Int)) := hR.cell (by omega)
          have hBv := HBL.out (J - i)
          generalize hBJ : BS (J - i) = BJ at *
          have HBJ : Hid (BS (J - i) = BJ) := hBJ
          clear hBJ
          have hGw : G ≤ wr.heap.size := by have := hb.size; rw [← HG.out] at this; exact this
          have hc0' : ∀ w1 : World, wr.grownBy w1 none → w1.cell? ⟨g8, 0, none⟩ = some (.int .i64 (RW J 0 : Int)) := fun w1 hg => (hR.grown hg (by simp)).cell (by omega)
          have hfN : ∀ w1 : World, Row w1 wr.heap.size 3 (p.size + 1) (fun _ => .int .i64 0) → w1.frozen? ⟨wr.heap.size, 0, none⟩ = false ∧ w1.cell? ⟨wr.heap.size, 0, none⟩ = some (.int .i64 0) := fun w1 h => ⟨h.free 0, h.cell (by omega)⟩
          go_wp2_with (at_make; refine wpList_make_full _ rfl _ _ 32 rfl wr.heap.size 3 i0 (.int .i64 0) 1 Tryz.underlying32 hi0 hz0 hz1 .i64 .i64 _ _ (p.size + 1) rfl rfl (by omega) (by omega) (by rw [hz2]; omega) (by unfold maxLen; omega) (by omega) ?_; intro w2 hown hgr; have hrN := Row.made hown; have hc8 := hc0' w2 hgr; have hfN1 := (hfN w2 hrN).1; have hfN2 := (hfN w2 hrN).2)
          have hR2 := hR.grown hgr (by simp)
          have hb2 : Below G w w2 := hb.grown hgr hGw (fun _ h => by cases h)
          have hne : g8 ≠ wr.heap.size := by have := hR.lt; omega
          have hR3 := hR2.setOther (a := ⟨wr.heap.size, 0, none⟩) hne (.int .i64 ((RW J 0 : Int) + 1))
          have hN3 : Row (w2.setCell ⟨wr.heap.size, 0, none⟩ (.int .i64 ((RW J 0 : Int) + 1))) wr.heap.size 3 (p.size + 1) (IN (upd (fun _ => 0) 0 (RW (J + 1) 0))) := by
            have h3 : Row w2 wr.heap.size 3 (p.size + 1) (IN fun _ => 0) := hrN
            have h4 := h3.setN 0 (RW (J + 1) 0)
            rw [HZE.out J hJ1 hlt2.1, Int.natCast_add] at h4
            rw [HZE.out J hJ1 hlt2.1]
            exact h4
          have hb3 : Below G w (w2.setCell ⟨wr.heap.size, 0, none⟩ (.int .i64 ((RW J 0 : Int) + 1))) := hb2.setCell hGw _
          clear hown hgr hrN hc8 hfN1 hfN2 hR hb hR2 hb2 hc0 hc0' hfN
          generalize w2.setCell ⟨wr.heap.size, 0, none⟩ (.int .i64 ((RW J 0 : Int) + 1)) = W3 at *
          generalize wr.heap.size = gN at *
          have HS0 : Hid (∀ j, j < 1 → upd (fun _ => 0) 0 (RW (J + 1) 0) j = RW (J + 1) j) := fun j hj => by
            obtain rfl : j = 0 := (by omega)
            exact upd_at _ _ _
          go_loopw [13] (fun kv wr => ∃ K : Nat, 1 ≤ K ∧ K ≤ p.size + 1 ∧ kv = .int .i64 (K : Int) ∧ Row wr g8 3 (p.size + 1) (IN (RW J)) ∧ (∃ f, Row wr gN 3 (p.size + 1) (IN f) ∧ Hid (∀ j, j < K → f j = RW (J + 1) j)) ∧ Below G w wr) (fun kv _ => p.size + 1 - (intOf kv).toNat)
          case atStart => exact ⟨1, Nat.le_refl _, by omega, rfl, hR3, ⟨_, hN3, HS0.out⟩, hb3⟩
          case round =>
            clear hR3 hN3 hb3
            obtain ⟨K1, hK1, hK2, rfl, hR, ⟨f, hN, hf⟩, hb⟩ := hrel
            by_cases hlt3 : K1 < p.size + 1
            · obtain ⟨K, rfl⟩ : ∃ K, K1 = K + 1 := ⟨K1 - 1, by omega⟩
              have hKp : K < p.size := by omega
              have d4 : ((K + 1 : Nat) : Int) ≤ (p.size : Int) := by omega
              have d5 : (K : Int) < (p.size : Int) := by omega
              have d6 : ((K : Int) + 1) ≤ (p.size : Int) := by omega
              have HX : Hid _ := HNX.out J K hJ1 hlt2.1 hKp
              have hfK : f K = RW (J + 1) K := hf.out K (by omega)
              have l1 := HLE.out J K hJ2
              have l2 := HLE.out J (K + 1) hJ2
              have l3 := HLE.out (J + 1) K (by omega)
              have HFN : Hid (∀ (w3 : World) (F : Nat → Nat), Row w3 gN 3 (p.size + 1) (IN F) → (∀ j, j < K + 1 → F j = f j) → F (K + 1) = RW (J + 1) (K + 1) → ∃ f', Row w3 gN 3 (p.size + 1) (IN f') ∧ Hid (∀ j, j < K + 1 + 1 → f' j = RW (J + 1) j)) := fun w3 F h1 h2 h3 => ⟨F, h1, fun j hj => by
                by_cases e : j = K + 1
                · rw [e, h3]
                · rw [h2 j (by omega), hf.out j (by omega)]⟩
              have a0 : wr.cell? ⟨g8, K, none⟩ = some (.int .i64 (RW J K : Int)) := hR.cell (by omega)
              have a1 : wr.cell? ⟨g8, K + 1, none⟩ = some (.int .i64 (RW J (K + 1) : Int)) := hR.cell (by omega)
              have b0 : wr.cell? ⟨gN, K, none⟩ = some (.int .i64 (RW (J + 1) K : Int)) := by
                have := hN.cell (j := K) (by omega)
                rwa [IN_at, hfK] at this
              have b1 := hN.cell (j := K + 1) (by omega)
              have z1 := hN.free (K + 1)
              have r1 := hR.setOther (a := ⟨gN, K + 1, none⟩) hne (.int .i64 (RW J K : Int))
              have n1 := hN.setN (K + 1) (RW J K)
              have b1' : Below G w (wr.setCell ⟨gN, K + 1, none⟩ (.int .i64 (RW J K : Int))) := hb.setCell hGw _
              have f1K : upd f (K + 1) (RW J K) K = f K := upd_ne _ _ _ (by omega)
              have f1N : Hid (∀ j, j < K + 1 → upd f (K + 1) (RW J K) j = f j) := fun j hj => upd_ne _ _ _ (by omega)
              clear HNX HST HLE HZE HBE HB0 HBL hf
              go_upto_region 17 with fail
              generalize wr.setCell ⟨gN, K + 1, none⟩ (.int .i64 (RW J K : Int)) = W1 at *
              have hFA0 : Hid (upd f (K + 1) (RW J K) (K + 1) = RW J K) := upd_at _ _ _
              have hFK0 : Hid (upd f (K + 1) (RW J K) K = RW (J + 1) K) := by show upd f (K + 1) (RW J K) K = _; rw [f1K, hfK]
              have hRB0 : Hid (∀ (W : World), Row W g8 3 (p.size + 1) (IN (RW J)) → W.cell? ⟨g8, K + 1, none⟩ = some (.int .i64 (RW J (K + 1) : Int))) := fun W h => h.cell (by omega)
              generalize upd f (K + 1) (RW J K) = F0 at *
              clear a0 a1 b0 b1 z1 hR hN hb f1K hfK
              generalize RW J K = RA at *
              generalize RW J (K + 1) = RB at *
              generalize RW (J + 1) K = RC at *
              generalize hRD : RW (J + 1) (K + 1) = RD at *
              clear hRD
              have r0 := r1
              have n0 := n1
              have b0' := b1'
              have HFl0 := f1N
              clear r1 n1 b1' f1N
              by_cases e1 : p[K] = s[J]
              · have q1 : (((p[K]).toNat : Int) != ((s[J]).toNat : Int)) = false := by rw [e1]; simp
                have HX2 : Hid (RD = min RA (min (RB + 1) (RC + 1))) := by show RD = _; rw [HX.out, if_pos e1]; rfl
                clear HX e1
                go_quiet (fail)
                have r1 : Row (W1.drewN nq) g8 3 (p.size + 1) (IN (RW J)) := r0
                have n1 : Row (W1.drewN nq) gN 3 (p.size + 1) (IN F0) := n0
                have b1' := below_drewN b0' nq
                clear r0 n0 b0'
                generalize W1.drewN nq = V1 at *
                go_upto_region 19 with fail
                have s8 : V1.cell? ⟨g8, K + 1, none⟩ = some (.int .i64 (RB : Int)) := hRB0.out _ r1
                have sN : V1.cell? ⟨gN, K + 1, none⟩ = some (.int .i64 ((RA : Int))) := by have h := n1.cell (j := K + 1) (by omega); rw [IN_at, hFA0.out] at h; exact h
                have sK : V1.cell? ⟨gN, K, none⟩ = some (.int .i64 (RC : Int)) := by have h := n1.cell (j := K) (by omega); rw [IN_at, hFK0.out] at h; exact h
                by_cases c2 : RB + 1 < RA
                · have t2 : decide ((RB : Int) + 1 < (RA : Int)) = true := by simp only [decide_eq_true_eq]; omega
                  go_quiet (fail)
                  have r2 : Row (V1.drewN nq) g8 3 (p.size + 1) (IN (RW J)) := r1
                  have n2 : Row (V1.drewN nq) gN 3 (p.size + 1) (IN F0) := n1
                  have b2' := below_drewN b1' nq
                  clear r1 n1 b1'
                  generalize V1.drewN nq = V2 at *
                  clear s8 sN sK
                  have s8 : V2.cell? ⟨g8, K + 1, none⟩ = some (.int .i64 (RB : Int)) := hRB0.out _ r2
                  have sN : V2.cell? ⟨gN, K + 1, none⟩ = some (.int .i64 ((RA : Int))) := by have h := n2.cell (j := K + 1) (by omega); rw [IN_at, hFA0.out] at h; exact h
                  have sK : V2.cell? ⟨gN, K, none⟩ = some (.int .i64 (RC : Int)) := by have h := n2.cell (j := K) (by omega); rw [IN_at, hFK0.out] at h; exact h
                  have zN2 := n2.free (K + 1)
                  have r3 := r2.setOther (a := ⟨gN, K + 1, none⟩) hne (.int .i64 ((RB : Int) + 1))
                  have n3 : Row (V2.setCell ⟨gN, K + 1, none⟩ (.int .i64 ((RB : Int) + 1))) gN 3 (p.size + 1) (IN (upd F0 (K + 1) (RB + 1))) := by have h := n2.setN (K + 1) (RB + 1); rw [Int.natCast_add] at h; exact h
                  have b3' : Below G w (V2.setCell ⟨gN, K + 1, none⟩ (.int .i64 ((RB : Int) + 1))) := b2'.setCell hGw _
                  have hFA1 : Hid (upd F0 (K + 1) (RB + 1) (K + 1) = RB + 1) := upd_at _ _ _
                  have hFK1 : Hid (upd F0 (K + 1) (RB + 1) K = RC) := by show upd F0 (K + 1) (RB + 1) K = RC; rw [upd_ne _ _ _ (by omega)]; exact hFK0.out
                  have HFl1 : Hid (∀ j, j < K + 1 → upd F0 (K + 1) (RB + 1) j = f j) := fun j hj => by rw [upd_ne _ _ _ (by omega)]; exact HFl0.out j hj
                  go_upto_region 21 with fail
                  clear s8 sN sK
                  clear r2 n2 b2' zN2 hFA0 hFK0 HFl0
                  generalize V2.setCell ⟨gN, K + 1, none⟩ (.int .i64 ((RB : Int) + 1)) = V3 at *
                  generalize hF9 : upd F0 (K + 1) (RB + 1) = F9 at *
                  clear hF9 F0
                  obtain ⟨F0, hF0⟩ : ∃ F0 : Nat → Nat, F0 = F9 := ⟨_, rfl⟩
                  rw [← hF0] at n3 hFA1 hFK1 HFl1
                  clear hF0 F9
                  have hFA0 := hFA1
                  have hFK0 := hFK1
                  have HFl0 := HFl1
                  clear hFA1 hFK1 HFl1
                  have s8 : V3.cell? ⟨g8, K + 1, none⟩ = some (.int .i64 (RB : Int)) := hRB0.out _ r3
                  have sN : V3.cell? ⟨gN, K + 1, none⟩ = some (.int .i64 ((RB : Int) + 1)) := by have h := n3.cell (j := K + 1) (by omega); rw [IN_at, hFA0.out] at h; rw [Int.natCast_add] at h; exact h
                  have sK : V3.cell? ⟨gN, K, none⟩ = some (.int .i64 (RC : Int)) := by have h := n3.cell (j := K) (by omega); rw [IN_at, hFK0.out] at h; exact h
                  by_cases c3 : RC + 1 < RB + 1
                  · have t3 : decide ((RC : Int) + 1 < (RB : Int) + 1) = true := by simp only [decide_eq_true_eq]; omega
                    go_quiet (fail)
                    have r4 : Row (V3.drewN nq) g8 3 (p.size + 1) (IN (RW J)) := r3
                    have n4 : Row (V3.drewN nq) gN 3 (p.size + 1) (IN F0) := n3
                    have b4' := below_drewN b3' nq
                    clear r3 n3 b3'
                    generalize V3.drewN nq = V4 at *
                    clear s8 sN sK
                    have s8 : V4.cell? ⟨g8, K + 1, none⟩ = some (.int .i64 (RB : Int)) := hRB0.out _ r4
                    have sN : V4.cell? ⟨gN, K + 1, none⟩ = some (.int .i64 ((RB : Int) + 1)) := by have h := n4.cell (j := K + 1) (by omega); rw [IN_at, hFA0.out] at h; rw [Int.natCast_add] at h; exact h
                    have sK : V4.cell? ⟨gN, K, none⟩ = some (.int .i64 (RC : Int)) := by have h := n4.cell (j := K) (by omega); rw [IN_at, hFK0.out] at h; exact h
                    have zN4 := n4.free (K + 1)
                    have r5 := r4.setOther (a := ⟨gN, K + 1, none⟩) hne (.int .i64 ((RC : Int) + 1))
                    have n5 : Row (V4.setCell ⟨gN, K + 1, none⟩ (.int .i64 ((RC : Int) + 1))) gN 3 (p.size + 1) (IN (upd F0 (K + 1) (RC + 1))) := by have h := n4.setN (K + 1) (RC + 1); rw [Int.natCast_add] at h; exact h
                    have b5' : Below G w (V4.setCell ⟨gN, K + 1, none⟩ (.int .i64 ((RC : Int) + 1))) := b4'.setCell hGw _
                    have hFA1 : Hid (upd F0 (K + 1) (RC + 1) (K + 1) = RC + 1) := upd_at _ _ _
                    have hFK1 : Hid (upd F0 (K + 1) (RC + 1) K = RC) := by show upd F0 (K + 1) (RC + 1) K = RC; rw [upd_ne _ _ _ (by omega)]; exact hFK0.out
                    have HFl1 : Hid (∀ j, j < K + 1 → upd F0 (K + 1) (RC + 1) j = f j) := fun j hj => by rw [upd_ne _ _ _ (by omega)]; exact HFl0.out j hj
                    go_wp2
                    go_roundw
                    case rel => exact ⟨K + 1 + 1, by omega, by omega, by go_num, r5, HFN.out _ _ n5 HFl1.out (by rw [hFA1.out, HX2.out, Nat.min_def, Nat.min_def]; split <;> split <;> omega), b5'⟩
                    case measure => simp [intOf]; omega
                  · have t3 : decide ((RC : Int) + 1 < (RB : Int) + 1) = false := by simp only [decide_eq_false_iff_not]; omega
                    go_quiet (fail)
                    have r4 : Row (V3.drewN nq) g8 3 (p.size + 1) (IN (RW J)) := r3
                    have n4 : Row (V3.drewN nq) gN 3 (p.size + 1) (IN F0) := n3
                    have b4' := below_drewN b3' nq
                    clear r3 n3 b3'
                    generalize V3.drewN nq = V4 at *
                    clear s8 sN sK
                    go_wp2
                    go_roundw
                    case rel => exact ⟨K + 1 + 1, by omega, by omega, by go_num, r4, HFN.out _ F0 n4 HFl0.out (by rw [hFA0.out, HX2.out, Nat.min_def, Nat.min_def]; split <;> split <;> omega), b4'⟩
                    case measure => simp [intOf]; omega
                · have t2 : decide ((RB : Int) + 1 < (RA : Int)) = false := by simp only [decide_eq_false_iff_not]; omega
                  go_quiet (fail)
                  have r2 : Row (V1.drewN nq) g8 3 (p.size + 1) (IN (RW J)) := r1
                  have n2 : Row (V1.drewN nq) gN 3 (p.size + 1) (IN F0) := n1
                  have b2' := below_drewN b1' nq
                  clear r1 n1 b1'
                  generalize V1.drewN nq = V2 at *
                  clear s8 sN sK
                  go_upto_region 21 with fail
                  have s8 : V2.cell? ⟨g8, K + 1, none⟩ = some (.int .i64 (RB : Int)) := hRB0.out _ r2
                  have sN : V2.cell? ⟨gN, K + 1, none⟩ = some (.int .i64 ((RA : Int))) := by have h := n2.cell (j := K + 1) (by omega); rw [IN_at, hFA0.out] at h; exact h
                  have sK : V2.cell? ⟨gN, K, none⟩ = some (.int .i64 (RC : Int)) := by have h := n2.cell (j := K) (by omega); rw [IN_at, hFK0.out] at h; exact h
                  by_cases c3 : RC + 1 < RA
                  · have t3 : decide ((RC : Int) + 1 < (RA : Int)) = true := by simp only [decide_eq_true_eq]; omega
                    go_quiet (fail)
                    have r3 : Row (V2.drewN nq) g8 3 (p.size + 1) (IN (RW J)) := r2
                    have n3 : Row (V2.drewN nq) gN 3 (p.size + 1) (IN F0) := n2
                    have b3' := below_drewN b2' nq
                    clear r2 n2 b2'
                    generalize V2.drewN nq = V3 at *
                    clear s8 sN sK
                    have s8 : V3.cell? ⟨g8, K + 1, none⟩ = some (.int .i64 (RB : Int)) := hRB0.out _ r3
                    have sN : V3.cell? ⟨gN, K + 1, none⟩ = some (.int .i64 ((RA : Int))) := by have h := n3.cell (j := K + 1) (by omega); rw [IN_at, hFA0.out] at h; exact h
                    have sK : V3.cell? ⟨gN, K, none⟩ = some (.int .i64 (RC : Int)) := by have h := n3.cell (j := K) (by omega); rw [IN_at, hFK0.out] at h; exact h
                    have zN3 := n3.free (K + 1)
                    have r4 := r3.setOther (a := ⟨gN, K + 1, none⟩) hne (.int .i64 ((RC : Int) + 1))
                    have n4 : Row (V3.setCell ⟨gN, K + 1, none⟩ (.int .i64 ((RC : Int) + 1))) gN 3 (p.size + 1) (IN (upd F0 (K + 1) (RC + 1))) := by have h := n3.setN (K + 1) (RC + 1); rw [Int.natCast_add] at h; exact h
                    have b4' : Below G w (V3.setCell ⟨gN, K + 1, none⟩ (.int .i64 ((RC : Int) + 1))) := b3'.setCell hGw _
                    have hFA1 : Hid (upd F0 (K + 1) (RC + 1) (K + 1) = RC + 1) := upd_at _ _ _
                    have hFK1 : Hid (upd F0 (K + 1) (RC + 1) K = RC) := by show upd F0 (K + 1) (RC + 1) K = RC; rw [upd_ne _ _ _ (by omega)]; exact hFK0.out
                    have HFl1 : Hid (∀ j, j < K + 1 → upd F0 (K + 1) (RC + 1) j = f j) := fun j hj => by rw [upd_ne _ _ _ (by omega)]; exact HFl0.out j hj
                    go_wp2
                    go_roundw
                    case rel => exact ⟨K + 1 + 1, by omega, by omega, by go_num, r4, HFN.out _ _ n4 HFl1.out (by rw [hFA1.out, HX2.out, Nat.min_def, Nat.min_def]; split <;> split <;> omega), b4'⟩
                    case measure => simp [intOf]; omega
                  · have t3 : decide ((RC : Int) + 1 < (RA : Int)) = false := by simp only [decide_eq_false_iff_not]; omega
                    go_quiet (fail)
                    have r3 : Row (V2.drewN nq) g8 3 (p.size + 1) (IN (RW J)) := r2
                    have n3 : Row (V2.drewN nq) gN 3 (p.size + 1) (IN F0) := n2
                    have b3' := below_drewN b2' nq
                    clear r2 n2 b2'
                    generalize V2.drewN nq = V3 at *
                    clear s8 sN sK
                    go_wp2
                    go_roundw
                    case rel => exact ⟨K + 1 + 1, by omega, by omega, by go_num, r3, HFN.out _ F0 n3 HFl0.out (by rw [hFA0.out, HX2.out, Nat.min_def, Nat.min_def]; split <;> split <;> omega), b3'⟩
                    case measure => simp [intOf]; omega
              · have q1 : (((p[K]).toNat : Int) != ((s[J]).toNat : Int)) = true := by simp only [bne_iff_ne, ne_eq]; intro h; exact e1 (UInt8.toNat_inj.1 (by omega))
                have HX2 : Hid (RD = min (RA + 1) (min (RB + 1) (RC + 1))) := by show RD = _; rw [HX.out, if_neg e1]
                clear HX e1
                go_quiet (fail)
                have r1 : Row (W1.drewN nq) g8 3 (p.size + 1) (IN (RW J)) := r0
                have n1 : Row (W1.drewN nq) gN 3 (p.size + 1) (IN F0) := n0
                have b1' := below_drewN b0' nq
                clear r0 n0 b0'
                generalize W1.drewN nq = V1 at *
                have s8 : V1.cell? ⟨g8, K + 1, none⟩ = some (.int .i64 (RB : Int)) := hRB0.out _ r1
                have sN : V1.cell? ⟨gN, K + 1, none⟩ = some (.int .i64 ((RA : Int))) := by have h := n1.cell (j := K + 1) (by omega); rw [IN_at, hFA0.out] at h; exact h
                have sK : V1.cell? ⟨gN, K, none⟩ = some (.int .i64 (RC : Int)) := by have h := n1.cell (j := K) (by omega); rw [IN_at, hFK0.out] at h; exact h
                have zN1 := n1.free (K + 1)
                have r2 := r1.setOther (a := ⟨gN, K + 1, none⟩) hne (.int .i64 ((RA : Int) + 1))
                have n2 : Row (V1.setCell ⟨gN, K + 1, none⟩ (.int .i64 ((RA : Int) + 1))) gN 3 (p.size + 1) (IN (upd F0 (K + 1) (RA + 1))) := by have h := n1.setN (K + 1) (RA + 1); rw [Int.natCast_add] at h; exact h
                have b2' : Below G w (V1.setCell ⟨gN, K + 1, none⟩ (.int .i64 ((RA : Int) + 1))) := b1'.setCell hGw _
                have hFA1 : Hid (upd F0 (K + 1) (RA + 1) (K + 1) = RA + 1) := upd_at _ _ _
                have hFK1 : Hid (upd F0 (K + 1) (RA + 1) K = RC) := by show upd F0 (K + 1) (RA + 1) K = RC; rw [upd_ne _ _ _ (by omega)]; exact hFK0.out
                have HFl1 : Hid (∀ j, j < K + 1 → upd F0 (K + 1) (RA + 1) j = f j) := fun j hj => by rw [upd_ne _ _ _ (by omega)]; exact HFl0.out j hj
                go_upto_region 19 with fail
                clear s8 sN sK
                clear r1 n1 b1' zN1 hFA0 hFK0 HFl0
                generalize V1.setCell ⟨gN, K + 1, none⟩ (.int .i64 ((RA : Int) + 1)) = V2 at *
                generalize hF9 : upd F0 (K + 1) (RA + 1) = F9 at *
                clear hF9 F0
                obtain ⟨F0, hF0⟩ : ∃ F0 : Nat → Nat, F0 = F9 := ⟨_, rfl⟩
                rw [← hF0] at n2 hFA1 hFK1 HFl1
                clear hF0 F9
                have hFA0 := hFA1
                have hFK0 := hFK1
                have HFl0 := HFl1
                clear hFA1 hFK1 HFl1
                have s8 : V2.cell? ⟨g8, K + 1, none⟩ = some (.int .i64 (RB : Int)) := hRB0.out _ r2
                have sN : V2.cell? ⟨gN, K + 1, none⟩ = some (.int .i64 ((RA : Int) + 1)) := by have h := n2.cell (j := K + 1) (by omega); rw [IN_at, hFA0.out] at h; rw [Int.natCast_add] at h; exact h
                have sK : V2.cell? ⟨gN, K, none⟩ = some (.int .i64 (RC : Int)) := by have h := n2.cell (j := K) (by omega); rw [IN_at, hFK0.out] at h; exact h
                by_cases c2 : RB + 1 < RA + 1
                · have t2 : decide ((RB : Int) + 1 < (RA : Int) + 1) = true := by simp only [decide_eq_true_eq]; omega
                  go_quiet (fail)
                  have r3 : Row (V2.drewN nq) g8 3 (p.size + 1) (IN (RW J)) := r2
                  have n3 : Row (V2.drewN nq) gN 3 (p.size + 1) (IN F0) := n2
                  have b3' := below_drewN b2' nq
                  clear r2 n2 b2'
                  generalize V2.drewN nq = V3 at *
                  clear s8 sN sK
                  have s8 : V3.cell? ⟨g8, K + 1, none⟩ = some (.int .i64 (RB : Int)) := hRB0.out _ r3
                  have sN : V3.cell? ⟨gN, K + 1, none⟩ = some (.int .i64 ((RA : Int) + 1)) := by have h := n3.cell (j := K + 1) (by omega); rw [IN_at, hFA0.out] at h; rw [Int.natCast_add] at h; exact h
                  have sK : V3.cell? ⟨gN, K, none⟩ = some (.int .i64 (RC : Int)) := by have h := n3.cell (j := K) (by omega); rw [IN_at, hFK0.out] at h; exact h
                  have zN3 := n3.free (K + 1)
                  have r4 := r3.setOther (a := ⟨gN, K + 1, none⟩) hne (.int .i64 ((RB : Int) + 1))
                  have n4 : Row (V3.setCell ⟨gN, K + 1, none⟩ (.int .i64 ((RB : Int) + 1))) gN 3 (p.size + 1) (IN (upd F0 (K + 1) (RB + 1))) := by have h := n3.setN (K + 1) (RB + 1); rw [Int.natCast_add] at h; exact h
                  have b4' : Below G w (V3.setCell ⟨gN, K + 1, none⟩ (.int .i64 ((RB : Int) + 1))) := b3'.setCell hGw _
                  have hFA1 : Hid (upd F0 (K + 1) (RB + 1) (K + 1) = RB + 1) := upd_at _ _ _
                  have hFK1 : Hid (upd F0 (K + 1) (RB + 1) K = RC) := by show upd F0 (K + 1) (RB + 1) K = RC; rw [upd_ne _ _ _ (by omega)]; exact hFK0.out
                  have HFl1 : Hid (∀ j, j < K + 1 → upd F0 (K + 1) (RB + 1) j = f j) := fun j hj => by rw [upd_ne _ _ _ (by omega)]; exact HFl0.out j hj
                  go_upto_region 21 with fail
                  clear s8 sN sK
                  clear r3 n3 b3' zN3 hFA0 hFK0 HFl0
                  generalize V3.setCell ⟨gN, K + 1, none⟩ (.int .i64 ((RB : Int) + 1)) = V4 at *
                  generalize hF9 : upd F0 (K + 1) (RB + 1) = F9 at *
                  clear hF9 F0
                  obtain ⟨F0, hF0⟩ : ∃ F0 : Nat → Nat, F0 = F9 := ⟨_, rfl⟩
                  rw [← hF0] at n4 hFA1 hFK1 HFl1
                  clear hF0 F9
                  have hFA0 := hFA1
                  have hFK0 := hFK1
                  have HFl0 := HFl1
                  clear hFA1 hFK1 HFl1
                  have s8 : V4.cell? ⟨g8, K + 1, none⟩ = some (.int .i64 (RB : Int)) := hRB0.out _ r4
                  have sN : V4.cell? ⟨gN, K + 1, none⟩ = some (.int .i64 ((RB : Int) + 1)) := by have h := n4.cell (j := K + 1) (by omega); rw [IN_at, hFA0.out] at h; rw [Int.natCast_add] at h; exact h
                  have sK : V4.cell? ⟨gN, K, none⟩ = some (.int .i64 (RC : Int)) := by have h := n4.cell (j := K) (by omega); rw [IN_at, hFK0.out] at h; exact h
                  by_cases c3 : RC + 1 < RB + 1
                  · have t3 : decide ((RC : Int) + 1 < (RB : Int) + 1) = true := by simp only [decide_eq_true_eq]; omega
                    go_quiet (fail)
                    have r5 : Row (V4.drewN nq) g8 3 (p.size + 1) (IN (RW J)) := r4
                    have n5 : Row (V4.drewN nq) gN 3 (p.size + 1) (IN F0) := n4
                    have b5' := below_drewN b4' nq
                    clear r4 n4 b4'
                    generalize V4.drewN nq = V5 at *
                    clear s8 sN sK
                    have s8 : V5.cell? ⟨g8, K + 1, none⟩ = some (.int .i64 (RB : Int)) := hRB0.out _ r5
                    have sN : V5.cell? ⟨gN, K + 1, none⟩ = some (.int .i64 ((RB : Int) + 1)) := by have h := n5.cell (j := K + 1) (by omega); rw [IN_at, hFA0.out] at h; rw [Int.natCast_add] at h; exact h
                    have sK : V5.cell? ⟨gN, K, none⟩ = some (.int .i64 (RC : Int)) := by have h := n5.cell (j := K) (by omega); rw [IN_at, hFK0.out] at h; exact h
                    have zN5 := n5.free (K + 1)
                    have r6 := r5.setOther (a := ⟨gN, K + 1, none⟩) hne (.int .i64 ((RC : Int) + 1))
                    have n6 : Row (V5.setCell ⟨gN, K + 1, none⟩ (.int .i64 ((RC : Int) + 1))) gN 3 (p.size + 1) (IN (upd F0 (K + 1) (RC + 1))) := by have h := n5.setN (K + 1) (RC + 1); rw [Int.natCast_add] at h; exact h
                    have b6' : Below G w (V5.setCell ⟨gN, K + 1, none⟩ (.int .i64 ((RC : Int) + 1))) := b5'.setCell hGw _
                    have hFA1 : Hid (upd F0 (K + 1) (RC + 1) (K + 1) = RC + 1) := upd_at _ _ _
                    have hFK1 : Hid (upd F0 (K + 1) (RC + 1) K = RC) := by show upd F0 (K + 1) (RC + 1) K = RC; rw [upd_ne _ _ _ (by omega)]; exact hFK0.out
                    have HFl1 : Hid (∀ j, j < K + 1 → upd F0 (K + 1) (RC + 1) j = f j) := fun j hj => by rw [upd_ne _ _ _ (by omega)]; exact HFl0.out j hj
                    go_wp2
                    go_roundw
                    case rel => exact ⟨K + 1 + 1, by omega, by omega, by go_num, r6, HFN.out _ _ n6 HFl1.out (by rw [hFA1.out, HX2.out, Nat.min_def, Nat.min_def]; split <;> split <;> omega), b6'⟩
                    case measure => simp [intOf]; omega
                  · have t3 : decide ((RC : Int) + 1 < (RB : Int) + 1) = false := by simp only [decide_eq_false_iff_not]; omega
                    go_quiet (fail)
                    have r5 : Row (V4.drewN nq) g8 3 (p.size + 1) (IN (RW J)) := r4
                    have n5 : Row (V4.drewN nq) gN 3 (p.size + 1) (IN F0) := n4
                    have b5' := below_drewN b4' nq
                    clear r4 n4 b4'
                    generalize V4.drewN nq = V5 at *
                    clear s8 sN sK
                    go_wp2
                    go_roundw
                    case rel => exact ⟨K + 1 + 1, by omega, by omega, by go_num, r5, HFN.out _ F0 n5 HFl0.out (by rw [hFA0.out, HX2.out, Nat.min_def, Nat.min_def]; split <;> split <;> omega), b5'⟩
                    case measure => simp [intOf]; omega
                · have t2 : decide ((RB : Int) + 1 < (RA : Int) + 1) = false := by simp only [decide_eq_false_iff_not]; omega
                  go_quiet (fail)
                  have r3 : Row (V2.drewN nq) g8 3 (p.size + 1) (IN (RW J)) := r2
                  have n3 : Row (V2.drewN nq) gN 3 (p.size + 1) (IN F0) := n2
                  have b3' := below_drewN b2' nq
                  clear r2 n2 b2'
                  generalize V2.drewN nq = V3 at *
                  clear s8 sN sK
                  go_upto_region 21 with fail
                  have s8 : V3.cell? ⟨g8, K + 1, none⟩ = some (.int .i64 (RB : Int)) := hRB0.out _ r3
                  have sN : V3.cell? ⟨gN, K + 1, none⟩ = some (.int .i64 ((RA : Int) + 1)) := by have h := n3.cell (j := K + 1) (by omega); rw [IN_at, hFA0.out] at h; rw [Int.natCast_add] at h; exact h
                  have sK : V3.cell? ⟨gN, K, none⟩ = some (.int .i64 (RC : Int)) := by have h := n3.cell (j := K) (by omega); rw [IN_at, hFK0.out] at h; exact h
                  by_cases c3 : RC + 1 < RA + 1
                  · have t3 : decide ((RC : Int) + 1 < (RA : Int) + 1) = true := by simp only [decide_eq_true_eq]; omega
                    go_quiet (fail)
                    have r4 : Row (V3.drewN nq) g8 3 (p.size + 1) (IN (RW J)) := r3
                    have n4 : Row (V3.drewN nq) gN 3 (p.size + 1) (IN F0) := n3
                    have b4' := below_drewN b3' nq
                    clear r3 n3 b3'
                    generalize V3.drewN nq = V4 at *
                    clear s8 sN sK
                    have s8 : V4.cell? ⟨g8, K + 1, none⟩ = some (.int .i64 (RB : Int)) := hRB0.out _ r4
                    have sN : V4.cell? ⟨gN, K + 1, none⟩ = some (.int .i64 ((RA : Int) + 1)) := by have h := n4.cell (j := K + 1) (by omega); rw [IN_at, hFA0.out] at h; rw [Int.natCast_add] at h; exact h
                    have sK : V4.cell? ⟨gN, K, none⟩ = some (.int .i64 (RC : Int)) := by have h := n4.cell (j := K) (by omega); rw [IN_at, hFK0.out] at h; exact h
                    have zN4 := n4.free (K + 1)
                    have r5 := r4.setOther (a := ⟨gN, K + 1, none⟩) hne (.int .i64 ((RC : Int) + 1))
                    have n5 : Row (V4.setCell ⟨gN, K + 1, none⟩ (.int .i64 ((RC : Int) + 1))) gN 3 (p.size + 1) (IN (upd F0 (K + 1) (RC + 1))) := by have h := n4.setN (K + 1) (RC + 1); rw [Int.natCast_add] at h; exact h
                    have b5' : Below G w (V4.setCell ⟨gN, K + 1, none⟩ (.int .i64 ((RC : Int) + 1))) := b4'.setCell hGw _
                    have hFA1 : Hid (upd F0 (K + 1) (RC + 1) (K + 1) = RC + 1) := upd_at _ _ _
                    have hFK1 : Hid (upd F0 (K + 1) (RC + 1) K = RC) := by show upd F0 (K + 1) (RC + 1) K = RC; rw [upd_ne _ _ _ (by omega)]; exact hFK0.out
                    have HFl1 : Hid (∀ j, j < K + 1 → upd F0 (K + 1) (RC + 1) j = f j) := fun j hj => by rw [upd_ne _ _ _ (by omega)]; exact HFl0.out j hj
                    go_wp2
                    go_roundw
                    case rel => exact ⟨K + 1 + 1, by omega, by omega, by go_num, r5, HFN.out _ _ n5 HFl1.out (by rw [hFA1.out, HX2.out, Nat.min_def, Nat.min_def]; split <;> split <;> omega), b5'⟩
                    case measure => simp [intOf]; omega
                  · have t3 : decide ((RC : Int) + 1 < (RA : Int) + 1) = false := by simp only [decide_eq_false_iff_not]; omega
                    go_quiet (fail)
                    have r4 : Row (V3.drewN nq) g8 3 (p.size + 1) (IN (RW J)) := r3
                    have n4 : Row (V3.drewN nq) gN 3 (p.size + 1) (IN F0) := n3
                    have b4' := below_drewN b3' nq
                    clear r3 n3 b3'
                    generalize V3.drewN nq = V4 at *
                    clear s8 sN sK
                    go_wp2
                    go_roundw
                    case rel => exact ⟨K + 1 + 1, by omega, by omega, by go_num, r4, HFN.out _ F0 n4 HFl0.out (by rw [hFA0.out, HX2.out, Nat.min_def, Nat.min_def]; split <;> split <;> omega), b4'⟩
                    case measure => simp [intOf]; omega
            · obtain rfl : K1 = p.size + 1 := by omega
              have d4 : ¬ ((p.size + 1 : Nat) : Int) ≤ (p.size : Int) := by omega
              have nF : Row wr gN 3 (p.size + 1) (IN (RW (J + 1))) := hN.congr (fun j hj => by simp only [IN]; rw [hf.out j hj])
              have cM : wr.cell? ⟨gN, p.size, none⟩ = some (.int .i64 (RW (J + 1) p.size : Int)) := nF.cell (by omega)
              have hBN := HBE.out J hJ1
              rw [HBJ.out] at hBN
              have lM := HLE.out (J + 1) p.size (by omega)
              clear hR hN hf
              by_cases cb : RW (J + 1) p.size < BJ
              · have tb : decide ((RW (J + 1) p.size : Int) < (BJ : Int)) = true := by simpa using cb
                have HE : Hid (BS (J + 1 - i) = RW (J + 1) p.size) := by show _ = _; rw [hBN, Nat.min_def]; split <;> omega
                clear hBN HNX HST HLE HZE HBE HB0 HBL
                go_wp2
                go_roundw
                case rel => exact ⟨J + 1, gN, by omega, by omega, by omega, by go_num, rfl, by rw [HE.out], hGw, nF, hb⟩
                case measure => simp [intOf]; omega
              · have tb : decide ((RW (J + 1) p.size : Int) < (BJ : Int)) = false := by simpa using cb
                have HE : Hid (BS (J + 1 - i) = BJ) := by show _ = _; rw [hBN, Nat.min_def]; split <;> omega
                clear hBN HNX HST HLE HZE HBE HB0 HBL
                go_wp2
                go_roundw
                case rel => exact ⟨J + 1, gN, by omega, by omega, by omega, by go_num, rfl, by rw [HE.out], hGw, nF, hb⟩
                case measure => simp [intOf]; omega
        · have HDD : Hid (i + (J - i) ≤ s.size ∧ (i + (J - i) = s.size ∨ J - i = 2 * p.size)) := by show _ ∧ _; omega
          by_cases d2 : J < s.size
          · have d2' : (J : Int) < (s.size : Int) := by omega
            have d3 : ¬ (J : Int) < (i : Int) + 2 * (p.size : Int) := by omega
            go_wp2
            go_ret
            exact ⟨J - i, HDD.out.1, HDD.out.2, rfl, by rw [← HG.out]; exact hb⟩
          · have d2' : ¬ (J : Int) < (s.size : Int) := by omega
            go_wp2
            go_ret
            exact ⟨J - i, HDD.out.1, HDD.out.2, rfl, by rw [← HG.out]; exact hb⟩
end Go.Proofs.YtkebgnpifmcmaabGreat

namespace Go.Proofs.YtkebgnpifmcmaabGreat
open Go.RowKit

theorem refEdits_badP (s p : ByteArray) (kk : Int) (w : World) (hp : p.size ≤ maxLen) (h : ¬ (0 < p.size ∧ p.size ≤ 30)) :
    Calls Tryz.prog 34 #[.string s, .string p, .int .i64 kk] w fun e w' => e = .returned (.tuple #[.slice none 0 0, .int .i64 (patE p)]) ∧ w' = w := by
  have hpe : patE p = 6 ∨ patE p = 7 := by
    unfold patE
    by_cases h0 : p.size = 0
    · rw [if_pos h0]; exact .inl rfl
    · rw [if_neg h0, if_pos (by omega)]; exact .inr rfl
  have HP : Hid _ := patterned_any p w hp
  clear h
  generalize patE p = E at *
  rcases hpe with rfl | rfl
  all_goals
    go_enter Tryz.func34, Tryz.ntmps34
    go_wp2_with fail
    refine Calls.mono HP.out ?_
    rintro en w1 ⟨rfl, rfl⟩
    go_wp2
    go_ret2
    exact ⟨rfl, rfl⟩

theorem refEdits_badK (s p : ByteArray) (kk : Int) (w : World) (h0 : 0 < p.size) (h1 : p.size ≤ 30) (hk : kk < 0 ∨ 4 < kk ∨ (p.size : Int) ≤ kk) :
    Calls Tryz.prog 34 #[.string s, .string p, .int .i64 kk] w fun e w' => e = .returned (.tuple #[.slice none 0 0, .int .i64 8]) ∧ w' = w := by
  have HP : Hid (∀ w, Calls Tryz.prog 55 #[.string p] w fun e w' => e = .returned (.int .i64 0) ∧ w' = w) := fun w => by
    have := patterned_any p w (by unfold maxLen; omega)
    rw [show patE p = 0 from by unfold patE; rw [if_neg (by omega), if_neg (by omega)]] at this
    exact this
  by_cases hk0 : kk < 0
  · have d1 : decide (kk < 0) = true := by simpa using hk0
    go_enter Tryz.func34, Tryz.ntmps34
    go_wp2_with fail
    refine Calls.mono (HP.out _) ?_
    rintro en w1 ⟨rfl, rfl⟩
    go_wp2
    go_ret2
    exact ⟨rfl, rfl⟩
  · have d1 : decide (kk < 0) = false := by simpa using hk0
    by_cases hk4 : 4 < kk
    · have d2 : decide (4 < kk) = true := by simpa using hk4
      go_enter Tryz.func34, Tryz.ntmps34
      go_wp2_with fail
      refine Calls.mono (HP.out _) ?_
      rintro en w1 ⟨rfl, rfl⟩
      go_wp2
      go_ret2
      exact ⟨rfl, rfl⟩
    · have d2 : decide (4 < kk) = false := by simpa using hk4
      have d3 : decide ((p.size : Int) ≤ kk) = true := by simp only [decide_eq_true_eq]; omega
      go_enter Tryz.func34, Tryz.ntmps34
      go_wp2_with fail
      refine Calls.mono (HP.out _) ?_
      rintro en w1 ⟨rfl, rfl⟩
      go_wp2
      go_ret2
      exact ⟨rfl, rfl⟩

set_option maxRecDepth 10000 in
set_option maxHeartbeats 1000000 in
theorem refEdits_k (s p : ByteArray) (kk : Nat) (w : World) (hn : s.size ≤ 2000) (h0 : 0 < p.size) (h1 : p.size ≤ 30) (hkk : kk ≤ 4) (hkp : kk < p.size) :
    Calls Tryz.prog 34 #[.string s, .string p, .int .i64 (kk : Int)] w fun e w' => ∃ v, e = .returned (.tuple #[v, .int .i64 0]) ∧ OwnL w' w.heap.size v (filt (neB (tx s) (tx p) kk) (s.size + 1)) ∧ Below w.heap.size w w' := by
  obtain ⟨i0, hi, hz0, hz1, hz2⟩ := info_parts Tryz.info3
  have HP : Hid (∀ w, Calls Tryz.prog 55 #[.string p] w fun e w' => e = .returned (.int .i64 0) ∧ w' = w) := fun w => by
    have := patterned_any p w (by unfold maxLen; omega)
    rw [show patE p = 0 from by unfold patE; rw [if_neg (by omega), if_neg (by omega)]] at this
    exact this
  have HLE : Hid (∀ (i : Nat) w, i ≤ s.size → Calls Tryz.prog 57 #[.string s, .string p, .int .i64 (i : Int)] w fun e w' => ∃ x : Nat, e = .returned (.int .i64 (x : Int)) ∧ decide (x ≤ kk) = neB (tx s) (tx p) kk i ∧ x ≤ 30 ∧ Below w.heap.size w w') := fun i w h => (least_any s p i w hn h0 h1 h).mono (fun e w' ⟨D, hD1, hD2, he, hb⟩ => by
    have hle := bst_le (tx s) (tx p) i D
    rw [tx_length] at hle
    exact ⟨_, he, bst_near (tx s) (tx p) i D kk (by rw [tx_length]; exact hkp) (by rw [tx_length]; exact hD1) (by rw [tx_length, tx_length]; exact hD2), by omega, hb⟩)
  generalize hB : neB (tx s) (tx p) kk = B at *
  clear hB
  have dk : ¬ (4 : Int) < (kk : Int) := by omega
  have dk3 : ¬ p.size ≤ kk := by omega
  have dk4 : ¬ 4 < kk := by omega
  go_enter Tryz.func34, Tryz.ntmps34
  go_wp2_with fail
  refine Calls.mono (HP.out _) ?_
  clear HP
  rintro en w1 ⟨rfl, rfl⟩
  go_wp2_with fail
  go_loopw [9, 10, 11] (fun v i _ wr => ∃ k : Nat, k ≤ s.size + 1 ∧ i = .int .i64 (k : Int) ∧ wr.ownsRow w1.heap.size 3 1 v (filt B k).length (NL (filt B k)) ∧ Below w1.heap.size w1 wr) (fun _ i _ _ => s.size + 1 - (intOf i).toNat)
  case atStart => exact ⟨0, Nat.zero_le _, rfl, World.ownsRow_nil _ _ _ _, Below.refl _ _⟩
  case round =>
    obtain ⟨k, hk, rfl, hown, hb⟩ := hrel
    by_cases hlt : k < s.size + 1
    · have d1 : (k : Int) ≤ (s.size : Int) := by omega
      have HC : Hid _ := HLE.out k wr (by omega)
      clear HLE
      have hfl : (filt B k).length ≤ k := by rw [filt_length]; exact cntB_le _ _
      go_wp2_with fail
      refine Calls.mono HC.out ?_
      clear HC
      rintro en w2 ⟨x, rfl, hx, hx2, hb2⟩
      have hownq := own_below hown hb2
      have hbq := hb.trans (hb2.mono hb.size)
      clear hown hb hb2
      cases hBk : B k with
      | false =>
        have HN : Hid (filt B (k + 1) = filt B k) := filt_no hBk
        rw [hBk] at hx
        have d3 : ¬ x ≤ kk := by simpa using hx
        clear hBk hx
        go_wp2
        go_roundw
        case rel => exact ⟨k + 1, by omega, by go_num, by rw [HN.out]; exact hownq, hbq⟩
        case measure => simp [intOf]; omega
      | true =>
        have HN : Hid (filt B (k + 1) = filt B k ++ [k]) := filt_yes hBk
        rw [hBk] at hx
        have d3 : x ≤ kk := by simpa using hx
        clear hBk hx hx2
        have hsz := hbq.size
        go_wp2_with (at_builtin; refine wpList_append_own _ rfl (.tmp 42) (.tmp 44) 32 rfl w1.heap.size 3 i0 (.int .i64 0) 1 8 Tryz.underlying32 hi hz0 hz1 hz2 rfl (by decide) u9 (filt B k).length _ rfl (hownq.alloc _) ⟨w2.heap.size, 0, none⟩ 1 1 [.int .i64 (k : Int)] rfl rfl (cell_one_new _ _ _) (by simp; rfl) (by unfold maxLen; omega) (by omega) (by simp; omega) ?_; intro v' w3 hown1 hgr1 _)
        have hb1 : Below w1.heap.size w1 w3 := (hbq.alloc hsz _).grown hgr1 (by simp; omega) (fun k hk => (hownq.lt k hk).1)
        rw [NL_snoc] at hown1
        have hown1' : w3.ownsRow w1.heap.size 3 1 v' (filt B (k + 1)).length (NL (filt B (k + 1))) := by
          rw [HN.out, List.length_append]; exact hown1
        go_roundw
        case rel => exact ⟨k + 1, by omega, by go_num, hown1', hb1⟩
        case measure => simp [intOf]; omega
    · have hkn : k = s.size + 1 := by omega
      subst hkn
      obtain ⟨ao, cp, rfl, _⟩ := OwnL.shape (l := filt B (s.size + 1)) hown
      go_wp2
      go_ret2
      exact ⟨_, rfl, hown, hb⟩
end Go.Proofs.YtkebgnpifmcmaabGreat

namespace Go.Proofs.YtkebgnpifmcmaabGreat
open Go.RowKit

set_option maxRecDepth 10000 in
set_option maxHeartbeats 1000000 in
theorem edited_yes (im s p : ByteArray) (kk : Int) (w : World) (hR : Reads im) (ht : imT im = tx s) (hp : p.size ≤ maxLen) :
    Calls Tryz.prog 11 #[.string im, .string s, .bool true, .string p, .int .i64 kk] w fun e w' => e = .returned (.bool true) ∧ Below w.heap.size w w' := by
  have hn : s.size ≤ 2000 := by have := imT_le hR w; rw [ht, tx_length] at this; exact this
  by_cases hsz : 0 < p.size ∧ p.size ≤ 30
  · by_cases hK : 0 ≤ kk ∧ kk ≤ 4 ∧ kk < (p.size : Int)
    · obtain ⟨k, rfl⟩ : ∃ k : Nat, kk = (k : Int) := ⟨kk.toNat, by omega⟩
      have HL : Hid (∀ w, Calls Tryz.prog 22 #[.string im, .string p, .int .i64 (k : Int)] w fun e w' => ∃ v, e = .returned (.tuple #[v, .int .i64 0]) ∧ Lst w' v (filt (neB (tx s) (tx p) k) (s.size + 1)).length (II fun j => ((filt (neB (tx s) (tx p) k) (s.size + 1)).getD j 0 : Int)) ∧ Below w.heap.size w w') := fun w => (edits_any im p (k : Int) w hp).mono (fun e w' hh => by
        rcases hh with ⟨⟨h, _⟩ | ⟨_, h, _⟩ | ⟨_, _, h, _⟩ | ⟨_, _, _, v, he, ho⟩, hb⟩
        · exact absurd hR h
        · exact absurd hsz h
        · exact absurd hK h
        · rw [ht, tx_length, Int.toNat_natCast] at ho; exact ⟨v, he, ho.lst, hb⟩)
      have HW : Hid (∀ w, Calls Tryz.prog 34 #[.string s, .string p, .int .i64 (k : Int)] w fun e w' => ∃ v, e = .returned (.tuple #[v, .int .i64 0]) ∧ Lst w' v (filt (neB (tx s) (tx p) k) (s.size + 1)).length (II fun j => ((filt (neB (tx s) (tx p) k) (s.size + 1)).getD j 0 : Int)) ∧ Below w.heap.size w w') := fun w => (refEdits_k s p k w hn hsz.1 hsz.2 (by omega) (by omega)).mono (fun e w' ⟨v, he, ho, hb⟩ => ⟨v, he, ho.lst, hb⟩)
      have hfl : (filt (neB (tx s) (tx p) k) (s.size + 1)).length ≤ 3000 := by rw [filt_length]; have := cntB_le (neB (tx s) (tx p) k) (s.size + 1); omega
      clear hR ht hp hsz hK
      generalize (fun j => ((filt (neB (tx s) (tx p) k) (s.size + 1)).getD j 0 : Int)) = F at *
      generalize (filt (neB (tx s) (tx p) k) (s.size + 1)).length = M at *
      go_enter Tryz.func11, Tryz.ntmps11
      go_wp2_with fail
      refine Calls.mono (HL.out _) ?_
      clear HL
      rintro en w2 ⟨va, rfl, hla, hb3⟩
      obtain ⟨ao, ca, rfl, ha⟩ := hla
      have hla : Lst w2 (.slice ao M ca) M (II F) := ⟨ao, ca, rfl, ha⟩
      clear ha
      go_wp2_with fail
      refine Calls.mono (HW.out w2) ?_
      clear HW
      rintro en w3 ⟨vb, rfl, hlb, hb4⟩
      obtain ⟨bo, cb, rfl, hb⟩ := hlb
      have hlb : Lst w3 (.slice bo M cb) M (II F) := ⟨bo, cb, rfl, hb⟩
      have HSM : Hid _ := same_true (.slice ao M ca) (.slice bo M cb) M F w3 hfl (hla.below hb4) hlb
      have hb5 := hb3.trans (hb4.mono hb3.size)
      clear hb3 hb4 hla hlb hb
      go_wp2_with fail
      refine Calls.mono HSM.out ?_
      clear HSM
      rintro en w4 ⟨rfl, q, rfl⟩
      have hb6 := below_drewN hb5 q
      go_wp2
      go_ret
      exact ⟨rfl, hb6⟩
    · have HL : Hid (∀ w, Calls Tryz.prog 22 #[.string im, .string p, .int .i64 kk] w fun e w' => e = .returned (.tuple #[.slice none 0 0, .int .i64 8]) ∧ Below w.heap.size w w') := fun w => (edits_any im p kk w hp).mono (fun e w' hh => by
        rcases hh with ⟨⟨h, _⟩ | ⟨_, h, _⟩ | ⟨_, _, _, he⟩ | ⟨_, _, h, _⟩, hb⟩
        · exact absurd hR h
        · exact absurd hsz h
        · exact ⟨he, hb⟩
        · exact absurd h hK)
      have HW : Hid (∀ w, Calls Tryz.prog 34 #[.string s, .string p, .int .i64 kk] w fun e w' => e = .returned (.tuple #[.slice none 0 0, .int .i64 8]) ∧ w' = w) := fun w => refEdits_badK s p kk w hsz.1 hsz.2 (by omega)
      have HSM : Hid (∀ w, Calls Tryz.prog 32 #[.slice none 0 0, .slice none 0 0] w fun e w' => e = .returned (.bool true) ∧ ∃ m, w' = w.drewN m) := fun w => same_true (.slice none 0 0) (.slice none 0 0) 0 (fun _ => 0) w (by decide) ⟨none, 0, rfl, fun h => by omega⟩ ⟨none, 0, rfl, fun h => by omega⟩
      clear hR ht hp hsz hK
      go_enter Tryz.func11, Tryz.ntmps11
      go_wp2_with fail
      refine Calls.mono (HL.out _) ?_
      clear HL
      rintro en w2 ⟨rfl, hb3⟩
      go_wp2_with fail
      refine Calls.mono (HW.out w2) ?_
      clear HW
      rintro en w3 ⟨rfl, rfl⟩
      go_wp2_with fail
      refine Calls.mono (HSM.out _) ?_
      clear HSM
      rintro en w4 ⟨rfl, q, rfl⟩
      have hb6 := below_drewN hb3 q
      go_wp2
      go_ret
      exact ⟨rfl, hb6⟩
  · have HL : Hid (∀ w, Calls Tryz.prog 22 #[.string im, .string p, .int .i64 kk] w fun e w' => e = .returned (.tuple #[.slice none 0 0, .int .i64 (patE p)]) ∧ Below w.heap.size w w') := fun w => (edits_any im p kk w hp).mono (fun e w' hh => by
      rcases hh with ⟨⟨h, _⟩ | ⟨_, _, he⟩ | ⟨_, h, _⟩ | ⟨_, h, _⟩, hb⟩
      · exact absurd hR h
      · exact ⟨he, hb⟩
      · exact absurd h hsz
      · exact absurd h hsz)
    have HW : Hid (∀ w, Calls Tryz.prog 34 #[.string s, .string p, .int .i64 kk] w fun e w' => e = .returned (.tuple #[.slice none 0 0, .int .i64 (patE p)]) ∧ w' = w) := fun w => refEdits_badP s p kk w hp hsz
    have HSM : Hid (∀ w, Calls Tryz.prog 32 #[.slice none 0 0, .slice none 0 0] w fun e w' => e = .returned (.bool true) ∧ ∃ m, w' = w.drewN m) := fun w => same_true (.slice none 0 0) (.slice none 0 0) 0 (fun _ => 0) w (by decide) ⟨none, 0, rfl, fun h => by omega⟩ ⟨none, 0, rfl, fun h => by omega⟩
    clear hR ht hp hsz
    generalize patE p = E at *
    go_enter Tryz.func11, Tryz.ntmps11
    go_wp2_with fail
    refine Calls.mono (HL.out _) ?_
    clear HL
    rintro en w2 ⟨rfl, hb3⟩
    go_wp2_with fail
    refine Calls.mono (HW.out w2) ?_
    clear HW
    rintro en w3 ⟨rfl, rfl⟩
    go_wp2_with fail
    refine Calls.mono (HSM.out _) ?_
    clear HSM
    rintro en w4 ⟨rfl, q, rfl⟩
    have hb6 := below_drewN hb3 q
    have q1 : (E == E) = true := by simp
    go_wp2
    go_ret
    exact ⟨rfl, hb6⟩
end Go.Proofs.YtkebgnpifmcmaabGreat
