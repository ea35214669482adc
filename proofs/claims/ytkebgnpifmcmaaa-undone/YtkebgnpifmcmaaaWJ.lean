import Derived.Test.YtkebgnpifmcmaaaWI
namespace Go.Proofs.Ytkebgnpifmcmaaa
open Go.RowKit

/-- How many of the first m bytes go ahead of the one at 'at'. -/
def cg (b : Nat → Nat) (c q m : Nat) : Nat := less b c m + cnt b c (min m q)
theorem cg_yes {b : Nat → Nat} {c q m : Nat} (h : b m < c ∨ (b m = c ∧ m < q)) : cg b c q (m + 1) = cg b c q m + 1 := by
  unfold cg
  rcases h with h | ⟨h, hq⟩
  · have h1 : less b c (m + 1) = less b c m + 1 := by simp [less, h]
    have h2 : cnt b c (min (m + 1) q) = cnt b c (min m q) := by
      by_cases e : m < q
      · rw [show min (m + 1) q = m + 1 from by omega, show min m q = m from by omega, cnt_other _ _ _ (by omega)]
      · rw [show min (m + 1) q = q from by omega, show min m q = q from by omega]
    omega
  · have h1 : less b c (m + 1) = less b c m := by simp [less, h]
    have h2 : cnt b c (min (m + 1) q) = cnt b c (min m q) + 1 := by
      rw [show min (m + 1) q = m + 1 from by omega, show min m q = m from by omega, cnt_succ, if_pos h]
    omega
theorem cg_no {b : Nat → Nat} {c q m : Nat} (h : ¬ b m < c) (h' : ¬ (b m = c ∧ m < q)) : cg b c q (m + 1) = cg b c q m := by
  unfold cg
  have h1 : less b c (m + 1) = less b c m := by simp [less, h]
  have h2 : cnt b c (min (m + 1) q) = cnt b c (min m q) := by
    by_cases e : m < q
    · rw [show min (m + 1) q = m + 1 from by omega, show min m q = m from by omega, cnt_other _ _ _ (fun x => h' ⟨x, e⟩)]
    · rw [show min (m + 1) q = q from by omega, show min m q = q from by omega]
  omega
theorem cg_le (b : Nat → Nat) (c q m : Nat) : cg b c q m ≤ m + m := by
  unfold cg
  have h1 := less_le b c m
  have h2 := cnt_le b c (min m q)
  omega
theorem cg_end {b : Nat → Nat} {q n : Nat} (h : q < n) : cg b (b q) q n = rk b n q := by
  unfold cg rk; rw [show min n q = q from by omega]

set_option maxRecDepth 10000 in
set_option maxHeartbeats 1600000 in
theorem guess_any (s : ByteArray) (e : Nat) (w : World) (hn : s.size ≤ 2000) (he : e ≤ s.size) :
    Calls Try.prog 41 #[.string s, .int .i64 (e : Int)] w fun en w' =>
      ((okBack (tx s) e ∧ en = .returned (.string (bs (backText (tx s) e)))) ∨ (¬ okBack (tx s) e ∧ en = .returned (.string ByteArray.empty))) ∧ Below w.heap.size w w' := by
  obtain ⟨i0, hi, hz0, hz1, hz2⟩ := info_parts Try.info5
  have HL : Hid ((tx s).length = s.size) := tx_length s
  go_enter Try.func41, Try.ntmps41
  go_wp2_with (at_make; refine wpList_make_full _ rfl _ _ 60 rfl w.heap.size 5 i0 (.int .u8 0) 1 Try.underlying60 hi hz0 hz1 .i64 .i64 _ _ s.size rfl rfl (by omega) (by omega) (by rw [hz2]; omega) (by unfold maxLen; omega) (by omega) ?_; intro w2 hown hgr)
  have hrow := Row.made hown
  have hb2 := below_made hgr
  clear hown hgr
  go_loopw [6, 8] (fun r p wr => ∃ k : Nat, k ≤ s.size ∧ p = .int .i64 ((s.size : Int) - 1 - (k : Int)) ∧ r = .int .i64 ((rr (bN (tx s)) (tx s).length e k : Nat) : Int) ∧
      (∃ tf, Row wr w.heap.size 5 s.size (IB tf) ∧ Hid (∀ j, j < k → tf (s.size - 1 - j) = (tx s).getD (idx e (rr (bN (tx s)) (tx s).length e j)) 0)) ∧ Hid (∀ j, j < k → rr (bN (tx s)) (tx s).length e j ≠ e) ∧
      Below w.heap.size w wr) (fun _ p _ => (intOf p + 1).toNat)
  case atStart => exact ⟨0, Nat.zero_le _, by go_num, rfl, ⟨fun _ => 0, hrow, fun j hj => by omega⟩, fun j hj => by omega, hb2⟩
  case round =>
    clear hrow hb2
    obtain ⟨k, hk, rfl, rfl, ⟨tf, ht, HT⟩, HN, hb⟩ := hrel
    have hrle := rr_le (b := bN (tx s)) (show e ≤ (tx s).length by rw [HL.out]; exact he) (k := k) HN.out
    by_cases hlt : k < s.size
    · by_cases hre : rr (bN (tx s)) (tx s).length e k = e
      · have hbe : ((rr (bN (tx s)) (tx s).length e k : Int) == (e : Int)) = true := by simp [hre]
        have hge : ¬ (e : Int) < (rr (bN (tx s)) (tx s).length e k : Int) := by omega
        have HX : Hid (¬ okBack (tx s) e) := fun h => h k (by rw [HL.out]; exact hlt) hre
        clear hre hrle
        generalize rr (bN (tx s)) (tx s).length e k = R at *
        go_wp2_with fail
        go_ret
        exact ⟨.inr ⟨HX.out, rfl⟩, hb⟩
      · have hbe : ((rr (bN (tx s)) (tx s).length e k : Int) == (e : Int)) = false := by simp; omega
        have HNE : Hid (rr (bN (tx s)) (tx s).length e k ≠ e) := hre
        have hat : idx e (rr (bN (tx s)) (tx s).length e k) < s.size := by rw [← HL.out]; exact idx_lt hrle (by rw [HL.out]; exact he) hre
        have HR : Hid (rr (bN (tx s)) (tx s).length e (k + 1) = 1 + rk (byN s) s.size (idx e (rr (bN (tx s)) (tx s).length e k))) := by
          show rr (bN (tx s)) (tx s).length e (k + 1) = _
          rw [rr_succ, byN_eq, HL.out]
        have HG : Hid (s[idx e (rr (bN (tx s)) (tx s).length e k)] = (tx s).getD (idx e (rr (bN (tx s)) (tx s).length e k)) 0) := (tx_getD s _ hat).symm
        have hrle2 : rr (bN (tx s)) (tx s).length e k ≤ s.size := Nat.le_trans hrle (Nat.le_of_eq HL.out)
        have hne2 : rr (bN (tx s)) (tx s).length e k < e ∨ e < rr (bN (tx s)) (tx s).length e k := by omega
        clear hre hrle
        generalize hRdef : rr (bN (tx s)) (tx s).length e k = R at *
        have HRD : Hid (rr (bN (tx s)) (tx s).length e k = R) := hRdef
        clear hRdef
        generalize hI : idx e R = I at *
        have HI : Hid (idx e R = I) := hI
        have hIR : (e < R ∧ I = R - 1) ∨ (R < e ∧ R = I) := by
          unfold idx at hI
          rcases hne2 with h | h
          · rw [if_neg (by omega)] at hI; exact .inr ⟨h, hI⟩
          · rw [if_pos h] at hI; exact .inl ⟨h, hI.symm⟩
        clear hI hne2
        have hc2 := ht.cell (show s.size - 1 - k < s.size by omega)
        have hfz := ht.free (s.size - 1 - k)
        have hby := (s[I]).toNat_lt
        have t20 : decide ((k : Int) ≤ (s.size : Int) - 1) = true := by simp; omega
        have HCE : Hid (cg (byN s) (s[I]).toNat I s.size = rk (byN s) s.size I) := by
          have := cg_end (b := byN s) hat
          rw [byN_lt s I hat] at this
          exact this
        clear hbe
        rcases hIR with ⟨hee, rfl⟩ | ⟨hee, rfl⟩
        · have t26 : decide (e < R) = true := by simp; omega
          have t36 : decide ((s.size : Int) ≤ (R : Int) - 1) = false := by simp; omega
          have t31 : ((R : Int) == (e : Int)) = false := by simp; omega
          go_wp2_with fail
          go_loopw [11, 12] (fun nx i wq => ∃ m : Nat, m ≤ s.size ∧ i = .int .i64 (m : Int) ∧ nx = .int .i64 ((1 + cg (byN s) (s[R - 1]).toNat (R - 1) m : Nat) : Int) ∧ wq = wr) (fun _ i _ => s.size - (intOf i).toNat)
          case atStart => exact ⟨0, Nat.zero_le _, rfl, rfl, rfl⟩
          case round =>
            obtain ⟨m, hm, rfl, rfl, rfl⟩ := hrel
            have hcl := cg_le (byN s) (s[R - 1]).toNat (R - 1) m
            by_cases hml : m < s.size
            · have hbm := (s[m]).toNat_lt
              have HB2 : Hid (byN s m = (s[m]).toNat) := byN_lt s m hml
              by_cases q1 : (s[m]).toNat < (s[R - 1]).toNat
              · have HS : Hid (cg (byN s) (s[R - 1]).toNat (R - 1) (m + 1) = cg (byN s) (s[R - 1]).toNat (R - 1) m + 1) := cg_yes (by rw [HB2.out]; exact .inl q1)
                go_wp2
                go_roundw
                case rel => exact ⟨m + 1, by omega, by go_num, by rw [HS.out]; try go_num, by first | rfl | trivial⟩
                case measure => simp [intOf]; omega
              · by_cases q2 : (s[m]).toNat = (s[R - 1]).toNat
                · have d2 : (((s[m]).toNat : Int) == ((s[R - 1]).toNat : Int)) = true := by simp; omega
                  by_cases q3 : m < R - 1
                  · have HS : Hid (cg (byN s) (s[R - 1]).toNat (R - 1) (m + 1) = cg (byN s) (s[R - 1]).toNat (R - 1) m + 1) := cg_yes (by rw [HB2.out]; exact .inr ⟨q2, q3⟩)
                    clear q2
                    go_wp2
                    go_roundw
                    case rel => exact ⟨m + 1, by omega, by go_num, by rw [HS.out]; try go_num, by first | rfl | trivial⟩
                    case measure => simp [intOf]; omega
                  · have HS : Hid (cg (byN s) (s[R - 1]).toNat (R - 1) (m + 1) = cg (byN s) (s[R - 1]).toNat (R - 1) m) := cg_no (by rw [HB2.out]; exact q1) (by rw [HB2.out]; exact fun h => q3 h.2)
                    clear q2
                    go_wp2
                    go_roundw
                    case rel => exact ⟨m + 1, by omega, by go_num, by rw [HS.out]; try go_num, by first | rfl | trivial⟩
                    case measure => simp [intOf]; omega
                · have d2 : (((s[m]).toNat : Int) == ((s[R - 1]).toNat : Int)) = false := by simp; omega
                  have HS : Hid (cg (byN s) (s[R - 1]).toNat (R - 1) (m + 1) = cg (byN s) (s[R - 1]).toNat (R - 1) m) := cg_no (by rw [HB2.out]; exact q1) (by rw [HB2.out]; exact fun h => q2 h.1)
                  clear q2
                  go_wp2
                  go_roundw
                  case rel => exact ⟨m + 1, by omega, by go_num, by rw [HS.out]; try go_num, by first | rfl | trivial⟩
                  case measure => simp [intOf]; omega
            · have hmn : m = s.size := by omega
              subst hmn
              go_wp2
              go_roundw
              case rel =>
                refine ⟨k + 1, by omega, by go_num, by rw [HR.out, HCE.out], ⟨_, ht.setB (s.size - 1 - k) s[R - 1], fun j hj => ?_⟩, fun j hj => ?_, hb.setCell (Nat.le_refl _) _⟩
                · by_cases ej : j = k
                  · subst ej; rw [upd_at, HRD.out, HI.out]; exact HG.out
                  · rw [upd_ne _ _ _ (by omega)]; exact HT.out j (by omega)
                · by_cases ej : j = k
                  · subst ej; rw [HRD.out]; exact HNE.out
                  · exact HN.out j (by omega)
              case measure => simp [intOf]; omega
        · have t26 : decide (e < R) = false := by simp; omega
          have t36 : decide (s.size ≤ R) = false := by simp; omega
          have t31 : ((R : Int) == (e : Int)) = false := by simp; omega
          go_wp2_with fail
          go_loopw [11, 12] (fun nx i wq => ∃ m : Nat, m ≤ s.size ∧ i = .int .i64 (m : Int) ∧ nx = .int .i64 ((1 + cg (byN s) (s[R]).toNat (R) m : Nat) : Int) ∧ wq = wr) (fun _ i _ => s.size - (intOf i).toNat)
          case atStart => exact ⟨0, Nat.zero_le _, rfl, rfl, rfl⟩
          case round =>
            obtain ⟨m, hm, rfl, rfl, rfl⟩ := hrel
            have hcl := cg_le (byN s) (s[R]).toNat (R) m
            by_cases hml : m < s.size
            · have hbm := (s[m]).toNat_lt
              have HB2 : Hid (byN s m = (s[m]).toNat) := byN_lt s m hml
              by_cases q1 : (s[m]).toNat < (s[R]).toNat
              · have HS : Hid (cg (byN s) (s[R]).toNat (R) (m + 1) = cg (byN s) (s[R]).toNat (R) m + 1) := cg_yes (by rw [HB2.out]; exact .inl q1)
                go_wp2
                go_roundw
                case rel => exact ⟨m + 1, by omega, by go_num, by rw [HS.out]; try go_num, by first | rfl | trivial⟩
                case measure => simp [intOf]; omega
              · by_cases q2 : (s[m]).toNat = (s[R]).toNat
                · have d2 : (((s[m]).toNat : Int) == ((s[R]).toNat : Int)) = true := by simp; omega
                  by_cases q3 : m < R
                  · have HS : Hid (cg (byN s) (s[R]).toNat (R) (m + 1) = cg (byN s) (s[R]).toNat (R) m + 1) := cg_yes (by rw [HB2.out]; exact .inr ⟨q2, q3⟩)
                    clear q2
                    go_wp2
                    go_roundw
                    case rel => exact ⟨m + 1, by omega, by go_num, by rw [HS.out]; try go_num, by first | rfl | trivial⟩
                    case measure => simp [intOf]; omega
                  · have HS : Hid (cg (byN s) (s[R]).toNat (R) (m + 1) = cg (byN s) (s[R]).toNat (R) m) := cg_no (by rw [HB2.out]; exact q1) (by rw [HB2.out]; exact fun h => q3 h.2)
                    clear q2
                    go_wp2
                    go_roundw
                    case rel => exact ⟨m + 1, by omega, by go_num, by rw [HS.out]; try go_num, by first | rfl | trivial⟩
                    case measure => simp [intOf]; omega
                · have d2 : (((s[m]).toNat : Int) == ((s[R]).toNat : Int)) = false := by simp; omega
                  have HS : Hid (cg (byN s) (s[R]).toNat (R) (m + 1) = cg (byN s) (s[R]).toNat (R) m) := cg_no (by rw [HB2.out]; exact q1) (by rw [HB2.out]; exact fun h => q2 h.1)
                  clear q2
                  go_wp2
                  go_roundw
                  case rel => exact ⟨m + 1, by omega, by go_num, by rw [HS.out]; try go_num, by first | rfl | trivial⟩
                  case measure => simp [intOf]; omega
            · have hmn : m = s.size := by omega
              subst hmn
              go_wp2
              go_roundw
              case rel =>
                refine ⟨k + 1, by omega, by go_num, by rw [HR.out, HCE.out], ⟨_, ht.setB (s.size - 1 - k) s[R], fun j hj => ?_⟩, fun j hj => ?_, hb.setCell (Nat.le_refl _) _⟩
                · by_cases ej : j = k
                  · subst ej; rw [upd_at, HRD.out, HI.out]; exact HG.out
                  · rw [upd_ne _ _ _ (by omega)]; exact HT.out j (by omega)
                · by_cases ej : j = k
                  · subst ej; rw [HRD.out]; exact HNE.out
                  · exact HN.out j (by omega)
              case measure => simp [intOf]; omega
    · have hkn : k = s.size := by omega
      subst hkn
      have hbl : Hid ((backText (tx s) e).length = s.size) := by show (backText (tx s) e).length = _; rw [backText_length, HL.out]
      have hcv : ∀ cap, (convert 60 9 (.slice (some ⟨w.heap.size, 0, none⟩) s.size cap)).run Try.prog wr = .ok (.string (bs (backText (tx s) e))) wr := by
        intro cap
        rw [← hbl.out] at ht ⊢
        refine conv_row ht (fun j hj => ?_)
        rw [hbl.out] at hj
        have h1 := HT.out (s.size - 1 - j) (by omega)
        rw [show s.size - 1 - (s.size - 1 - j) = j from by omega] at h1
        have h2 := backText_get (tx s) e (s.size - 1 - j) (by rw [HL.out]; omega) (by rw [hbl.out, HL.out]; omega)
        have h3 : (tx s).length - 1 - (s.size - 1 - j) = j := by rw [HL.out]; omega
        rw [h1, List.getD_eq_getElem?_getD (l := backText (tx s) e), List.getElem?_eq_getElem (show j < (backText (tx s) e).length by rw [hbl.out]; exact hj), Option.getD_some, ← h2]
        congr 1
      have HX : Hid (okBack (tx s) e) := fun j hj => HN.out j (by rw [← HL.out]; exact hj)
      clear hrle
      generalize rr (bN (tx s)) (tx s).length e s.size = R at *
      go_wp2
      go_ret
      exact ⟨.inl ⟨HX.out, rfl⟩, hb⟩

end Go.Proofs.Ytkebgnpifmcmaaa
