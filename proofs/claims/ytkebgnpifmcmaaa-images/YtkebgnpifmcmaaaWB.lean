import Derived.Test.YtkebgnpifmcmaaaWA
namespace Go.Proofs.Ytkebgnpifmcmaaa
open Go.RowKit

theorem Row.drewN {w : World} {g : Nat} {e : TypeId} {n : Nat} {F : Nat → Value} (h : Row w g e n F) (m : Nat) : Row (w.drewN m) g e n F := h.block rfl
theorem bdrewN {B : Nat} {a w : World} (h : Below B a w) (m : Nat) : Below B a (w.drewN m) := h.trans ⟨rfl, rfl, rfl, Nat.le_refl _, fun _ _ => rfl⟩

/-- How many steps of the order, up to i, part two neighbours. -/
def jd (S : Nat → Nat → Bool) (o : Nat → Nat) : Nat → Nat
  | 0 => 0
  | i + 1 => jd S o i + (if S (o i) (o (i + 1)) then 0 else 1)
theorem jd_le (S : Nat → Nat → Bool) (o : Nat → Nat) (i : Nat) : jd S o i ≤ i := by
  induction i with
  | zero => simp [jd]
  | succ i ih => simp only [jd]; split <;> omega

theorem sameHalves_eq (g n cap a b width : Nat) (c : Nat → Nat) (w : World) (v : Bool) (hn : n ≤ 3000) (hr : Row w g 3 n (IN c)) (ha : a < n) (hb : b < n) (hw : width ≤ 6000) (hv : halvesB n c a b width = v) :
    Calls Try.prog 76 #[.slice (some ⟨g, 0, none⟩) n cap, .int .i64 (a : Int), .int .i64 (b : Int), .int .i64 (width : Int)] w fun e w' => e = .returned (.bool v) ∧ ∃ m, w' = w.drewN m := by
  subst hv; exact sameHalves_any g n cap a b width c w hn hr ha hb hw

set_option maxRecDepth 10000 in
set_option maxHeartbeats 800000 in
theorem joinClasses_any (go n capo gc capc width : Nat) (o c : Nat → Nat) (w : World) (hn : n ≤ 3000) (hn0 : 0 < n) (hro : Row w go 3 n (IN o)) (hrc : Row w gc 3 n (IN c)) (ho : ∀ j, j < n → o j < n)
    (hinj : ∀ i j, i < n → j < n → o i = o j → i = j) (hw : width ≤ 6000) :
    Calls Try.prog 54 #[.slice (some ⟨go, 0, none⟩) n capo, .slice (some ⟨gc, 0, none⟩) n capc, .int .i64 (width : Int)] w fun e w' =>
      ∃ g cap f, e = .returned (.tuple #[.slice (some ⟨g, 0, none⟩) n cap, .int .i64 ((jd (fun a b => halvesB n c a b width) o (n - 1) + 1 : Nat) : Int)]) ∧ w.heap.size ≤ g ∧ Row w' g 3 n (IN f) ∧ Below w.heap.size w w' ∧
        ∀ i, i < n → f (o i) = jd (fun a b => halvesB n c a b width) o i := by
  obtain ⟨i0, hi, hz0, hz1, hz2⟩ := info_parts Try.info3
  have hglt := hro.lt
  have hclt := hrc.lt
  go_enter Try.func54, Try.ntmps54
  go_wp2_with (at_make; refine wpList_make_full _ rfl _ _ 22 rfl w.heap.size 3 i0 (.int .i64 0) 1 Try.underlying22 hi hz0 hz1 .i64 .i64 _ _ n rfl rfl (by omega) (by omega) (by rw [hz2]; omega) (by unfold maxLen; omega) (by omega) ?_; intro w1 hown hgr)
  have hrow := Row.made hown
  have hbel := below_made hgr
  have hsz := hgr.size
  clear hown hgr
  go_loopw [9, 10] (fun kd i wr => ∃ k : Nat, 1 ≤ k ∧ k ≤ n ∧ i = .int .i64 k ∧ kd = .int .i64 ((jd (fun a b => halvesB n c a b width) o (k - 1) + 1 : Nat) : Int) ∧
      (∃ f, Row wr w.heap.size 3 n (IN f) ∧ ∀ j, j < k → f (o j) = jd (fun a b => halvesB n c a b width) o j) ∧ Below w.heap.size w wr) (fun _ i _ => n - (intOf i).toNat)
  case atStart => exact ⟨1, Nat.le_refl _, by omega, rfl, rfl, ⟨fun _ => 0, hrow, fun j hj => by rw [show j = 0 from by omega]; rfl⟩, hbel⟩
  case round =>
    obtain ⟨k, hk1, hk, rfl, rfl, ⟨f, hr, hf⟩, hb⟩ := hrel
    have hjl := jd_le (fun a b => halvesB n c a b width) o (k - 1)
    by_cases hlt : k < n
    · have hco := (hro.below hb hglt).cell hlt
      have hco1 := (hro.below hb hglt).cell (show k - 1 < n by omega)
      rw [IN_at] at hco hco1
      have hok := ho k hlt
      have hok1 := ho (k - 1) (by omega)
      have hcs := hr.cell hok
      have hfz := hr.free (o k)
      have hrc' := hrc.below hb hclt
      have hstep : jd (fun a b => halvesB n c a b width) o k = jd (fun a b => halvesB n c a b width) o (k - 1) + (if halvesB n c (o (k - 1)) (o k) width then 0 else 1) := by
        obtain ⟨q, rfl⟩ : ∃ q, k = q + 1 := ⟨k - 1, by omega⟩
        rfl
      cases hv : halvesB n c (o (k - 1)) (o k) width with
      | true =>
        have HS : Hid (jd (fun a b => halvesB n c a b width) o k = jd (fun a b => halvesB n c a b width) o (k - 1)) := by rw [hv] at hstep; exact hstep
        have HV : Hid (halvesB n c (o (k - 1)) (o k) width = true) := hv
        clear hstep hv
        generalize hJ : jd (fun a b => halvesB n c a b width) o (k - 1) = J at *
        have HJ' : Hid (jd (fun a b => halvesB n c a b width) o (k - 1) = J) := hJ
        clear hJ
        go_wp2
        go_quiet ((go_at_call 76; exact Calls.quiet_of (sameHalves_eq gc n capc (o (k - 1)) (o k) width c _ true hn (hrc'.drewN _) hok1 hok hw HV.out)))
        go_wp2
        go_roundw
        case rel => exact ⟨k + 1, by omega, by omega, by go_num, by rw [Nat.add_sub_cancel, HS.out], ⟨_, (hr.drewN _).setN (o k) J, fun j hj => by
            by_cases e : j = k
            · subst e; rw [upd_at, HS.out]
            · rw [upd_ne _ _ _ (fun h => e (hinj j k (by omega) hlt h))]; exact hf j (by omega)⟩, (bdrewN hb _).setCell (Nat.le_refl _) _⟩
        case measure => simp [intOf]; omega
      | false =>
        have HS : Hid (jd (fun a b => halvesB n c a b width) o k = jd (fun a b => halvesB n c a b width) o (k - 1) + 1) := by rw [hv] at hstep; exact hstep
        have HV : Hid (halvesB n c (o (k - 1)) (o k) width = false) := hv
        clear hstep hv
        generalize hJ : jd (fun a b => halvesB n c a b width) o (k - 1) = J at *
        have HJ' : Hid (jd (fun a b => halvesB n c a b width) o (k - 1) = J) := hJ
        clear hJ
        go_wp2
        go_quiet ((go_at_call 76; exact Calls.quiet_of (sameHalves_eq gc n capc (o (k - 1)) (o k) width c _ false hn (hrc'.drewN _) hok1 hok hw HV.out)))
        go_wp2
        go_roundw
        case rel => exact ⟨k + 1, by omega, by omega, by go_num, by rw [Nat.add_sub_cancel, HS.out]; go_num, ⟨_, (hr.drewN _).setN (o k) (J + 1), fun j hj => by
            by_cases e : j = k
            · subst e; rw [upd_at, HS.out]
            · rw [upd_ne _ _ _ (fun h => e (hinj j k (by omega) hlt h))]; exact hf j (by omega)⟩, (bdrewN hb _).setCell (Nat.le_refl _) _⟩
        case measure => simp [intOf]; omega
    · have hkn : k = n := by omega
      subst hkn
      go_wp2
      go_ret2
      exact ⟨_, _, f, rfl, Nat.le_refl _, hr, hb, hf⟩

end Go.Proofs.Ytkebgnpifmcmaaa
