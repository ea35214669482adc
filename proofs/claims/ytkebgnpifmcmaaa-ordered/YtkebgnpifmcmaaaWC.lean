import Derived.Test.YtkebgnpifmcmaaaWB
import Derived.Test.YtkebgnpifmcmaaaCnt
namespace Go.Proofs.Ytkebgnpifmcmaaa
open Go.RowKit

/-- The first loop's step. -/
theorem starts_step {c st : Nat → Nat} {k : Nat} (h0 : st 0 = 0) (h : ∀ x, st (x + 1) = cnt c x k) : upd st (c k + 1) (st (c k + 1) + 1) 0 = 0 ∧ ∀ x, upd st (c k + 1) (st (c k + 1) + 1) (x + 1) = cnt c x (k + 1) := by
  refine ⟨by rw [upd_ne _ _ _ (by omega)]; exact h0, fun x => ?_⟩
  by_cases e : x = c k
  · subst e; rw [upd_at, cnt_same, h]
  · rw [upd_ne _ _ _ (by omega), cnt_other _ _ _ (fun h => e h.symm), h]
/-- The second loop's step. -/
theorem sums_step {c st : Nat → Nat} {n k : Nat} (h : ∀ x, x ≤ k → st x = less c x n) (h' : ∀ x, k ≤ x → st (x + 1) = cnt c x n) :
    (∀ x, x ≤ k + 1 → upd st (k + 1) (st (k + 1) + st k) x = less c x n) ∧ ∀ x, k + 1 ≤ x → upd st (k + 1) (st (k + 1) + st k) (x + 1) = cnt c x n := by
  refine ⟨fun x hx => ?_, fun x hx => ?_⟩
  · by_cases e : x = k + 1
    · subst e; rw [upd_at, h' k (Nat.le_refl _), h k (Nat.le_refl _), less_succ]; omega
    · rw [upd_ne _ _ _ e]; exact h x (by omega)
  · rw [upd_ne _ _ _ (by omega)]; exact h' x (by omega)
/-- The third loop's step. -/
theorem place_step {d st s p : Nat → Nat} {n K k : Nat} (hk : k < n) (hst : ∀ x, x < K → st x = less d x n + cnt d x k) (hdk : d k < K) (hs : ∀ i, i < k → s (rk d n i) = p i) :
    st (d k) = rk d n k ∧ (∀ x, x < K → upd st (d k) (st (d k) + 1) x = less d x n + cnt d x (k + 1)) ∧ ∀ i, i < k + 1 → upd s (st (d k)) (p k) (rk d n i) = p i := by
  have e0 : st (d k) = rk d n k := hst _ hdk
  refine ⟨e0, fun x hx => ?_, fun i hi => ?_⟩
  · by_cases e : x = d k
    · subst e; rw [upd_at, cnt_same, hst _ hx]; omega
    · rw [upd_ne _ _ _ e, cnt_other _ _ _ (fun h => e h.symm), hst x hx]
  · rw [e0]
    by_cases e : i = k
    · subst e; rw [upd_at]
    · rw [upd_ne _ _ _ (fun h => e (rk_inj d n (by omega) hk h))]; exact hs i (by omega)

set_option maxRecDepth 10000 in
set_option maxHeartbeats 800000 in
theorem sortByClass_any (gp n capp gc capc K : Nat) (p c : Nat → Nat) (w : World) (hn : n ≤ 3000) (hK : K ≤ 3000) (hrp : Row w gp 3 n (IN p)) (hrc : Row w gc 3 n (IN c)) (hp : ∀ j, j < n → p j < n) (hc : ∀ j, j < n → c j < K)
    (hperm : ∀ x, cnt (fun i => c (p i)) x n = cnt c x n) :
    Calls Try.prog 52 #[.slice (some ⟨gp, 0, none⟩) n capp, .slice (some ⟨gc, 0, none⟩) n capc, .int .i64 (K : Int)] w fun e w' =>
      ∃ s, NewN w w' e n s ∧ ∀ i, i < n → s (rk (fun i => c (p i)) n i) = p i := by
  obtain ⟨i0, hi, hz0, hz1, hz2⟩ := info_parts Try.info3
  have hplt := hrp.lt
  have hclt := hrc.lt
  have HP : Hid (∀ x, less (fun i => c (p i)) x n = less c x n) := less_of_cnt hperm
  clear hperm
  go_enter Try.func52, Try.ntmps52
  go_wp2_with (at_make; refine wpList_make_full _ rfl (.tmp 16) _ 22 rfl w.heap.size 3 i0 (.int .i64 0) 1 Try.underlying22 hi hz0 hz1 .i64 .i64 _ _ (K + 1) rfl rfl (by omega) (by omega) (by rw [hz2]; omega) (by unfold maxLen; omega) (by omega) ?_; intro w1 hown hgr)
  have hrow := Row.made hown
  have hbel := below_made hgr
  have hsz := hgr.size
  clear hown hgr
  go_loopw [20, 9] (fun i _ wr => ∃ k : Nat, k ≤ n ∧ i = .int .i64 k ∧ (∃ st, Row wr w.heap.size 3 (K + 1) (IN st) ∧ Hid (st 0 = 0) ∧ Hid (∀ x, st (x + 1) = cnt c x k)) ∧ Below w.heap.size w wr) (fun i _ _ => n - (intOf i).toNat)
  case atStart => exact ⟨0, Nat.zero_le _, rfl, ⟨fun _ => 0, hrow, rfl, fun x => rfl⟩, hbel⟩
  case round =>
    obtain ⟨k, hk, rfl, ⟨st, hr, H0, H1⟩, hb⟩ := hrel
    by_cases hlt : k < n
    · have hcc := (hrc.below hb hclt).cell hlt
      have hck := hc k hlt
      have hcs := hr.cell (show c k + 1 < K + 1 by omega)
      have hfz := hr.free (c k + 1)
      rw [IN_at] at hcs hcc
      have hsb : st (c k + 1) ≤ n := by rw [H1.out]; have := cnt_le c (c k) k; omega
      go_wp2
      go_roundw
      case rel =>
        have R := starts_step H0.out H1.out
        exact ⟨k + 1, by omega, by go_num, ⟨_, hr.setN (c k + 1) (st (c k + 1) + 1), R.1, R.2⟩, hb.setCell (Nat.le_refl _) _⟩
      case measure => simp [intOf]; omega
    · have hkn : k = n := by omega
      subst hkn
      have H2 : Hid (∀ x, x ≤ 0 → st x = less c x k) := fun x hx => by rw [show x = 0 from by omega, less_zero]; exact H0.out
      clear H0 hrow hbel hk hlt
      go_wp2_with fail
      go_loopw [33, 10] (fun i _ wr => ∃ m : Nat, m ≤ K ∧ i = .int .i64 m ∧ (∃ st, Row wr w.heap.size 3 (K + 1) (IN st) ∧ Hid (∀ x, x ≤ m → st x = less c x k) ∧ Hid (∀ x, m ≤ x → st (x + 1) = cnt c x k)) ∧ Below w.heap.size w wr) (fun i _ _ => K - (intOf i).toNat)
      case atStart => exact ⟨0, Nat.zero_le _, rfl, ⟨st, hr, H2, fun x _ => H1.out x⟩, hb⟩
      case round =>
        clear hr hb H1 H2
        obtain ⟨m, hm, rfl, ⟨st, hr, H1, H2⟩, hb⟩ := hrel
        by_cases hlt : m < K
        · have hcs := hr.cell (show m < K + 1 by omega)
          have hcs1 := hr.cell (show m + 1 < K + 1 by omega)
          have hfz := hr.free (m + 1)
          rw [IN_at] at hcs hcs1
          have hsb : st m ≤ k := by rw [H1.out m (Nat.le_refl _)]; exact less_le _ _ _
          have hsb1 : st (m + 1) ≤ k := by rw [H2.out m (Nat.le_refl _)]; exact cnt_le _ _ _
          go_wp2
          go_region
          all_goals go_wp2
          all_goals go_roundw
          case rel =>
            have R := sums_step H1.out H2.out
            exact ⟨m + 1, by omega, by go_num, ⟨_, hr.drew.setN (m + 1) (st (m + 1) + st m), R.1, R.2⟩, hb.drew.setCell (Nat.le_refl _) _⟩
          case measure => simp [intOf]; omega
        · have hkm : m = K := by omega
          subst hkm
          have hsz1 := hb.size
          go_wp2_with (at_make; refine wpList_make_full _ rfl (.tmp 49) _ 22 rfl wr.heap.size 3 i0 (.int .i64 0) 1 Try.underlying22 hi hz0 hz1 .i64 .i64 _ _ k rfl rfl (by omega) (by omega) (by rw [hz2]; omega) (by unfold maxLen; omega) (by omega) ?_; intro w2 hown hgr)
          have hrow := Row.made hown
          have hb2 := hb.grown hgr hsz1 (fun _ h => by cases h)
          have hr2 := hr.grown hgr (by simp)
          have hg2 : w.heap.size < wr.heap.size := hr.lt
          obtain ⟨G, hG⟩ : ∃ G, G = wr.heap.size := ⟨_, rfl⟩
          rw [← hG] at hrow hg2 ⊢
          clear hown hgr hr hb H2 hsz1 hG
          have H3 : Hid (∀ x, x < m → st x = less (fun i => c (p i)) x k + cnt (fun i => c (p i)) x 0) := fun x hx => by rw [HP.out, H1.out x (by omega)]; rfl
          clear H1
          go_loopw [53, 13, 14] (fun i _ _ wr => ∃ q : Nat, q ≤ k ∧ i = .int .i64 q ∧ (∃ st s, Row wr w.heap.size 3 (m + 1) (IN st) ∧ Row wr G 3 k (IN s) ∧ Hid (∀ x, x < m → st x = less (fun i => c (p i)) x k + cnt (fun i => c (p i)) x q) ∧ Hid (∀ i, i < q → s (rk (fun i => c (p i)) k i) = p i)) ∧ Below w.heap.size w wr) (fun i _ _ _ => k - (intOf i).toNat)
          case atStart => exact ⟨0, Nat.zero_le _, rfl, ⟨st, fun _ => 0, hr2, hrow, H3, fun i hi => by omega⟩, hb2⟩
          case round =>
            clear hr2 hrow H3 hb2
            obtain ⟨q, hq, rfl, ⟨st, s, hr, hs, H1, H2⟩, hb⟩ := hrel
            by_cases hlt : q < k
            · have R := place_step (p := p) (s := s) hlt H1.out (hc (p q) (hp q hlt)) H2.out
              have hpq := hp q hlt
              have hcq := hc (p q) hpq
              have hc1 := (hrp.below hb hplt).cell hlt
              have hc2 := (hrc.below hb hclt).cell hpq
              have hc3 := hr.cell (show c (p q) < m + 1 by omega)
              have hfz3 := hr.free (c (p q))
              have hstq : st (c (p q)) < k := by rw [R.1]; exact rk_lt _ _ _ hlt
              have hc4 := hs.cell hstq
              have hfz4 := hs.free (st (c (p q)))
              rw [IN_at] at hc1 hc2 hc3 hc4
              have R2 : Hid _ := R.2
              clear R
              go_wp2
              go_roundw
              case rel => 
                exact ⟨q + 1, by omega, by go_num, ⟨_, _, (hr.setOther (by simp; omega) _).setN (c (p q)) (st (c (p q)) + 1), (hs.setN (st (c (p q))) (p q)).setOther (by simp; omega) _, R2.out.1, R2.out.2⟩, (hb.setCell (by simp; omega) _).setCell (Nat.le_refl _) _⟩
              case measure => simp [intOf]; omega
            · have hqk : q = k := by omega
              subst hqk
              go_wp2
              go_ret
              exact ⟨s, ⟨_, _, rfl, by omega, by unfold maxLen; omega, by omega, hs, hb⟩, H2.out⟩

end Go.Proofs.Ytkebgnpifmcmaaa
