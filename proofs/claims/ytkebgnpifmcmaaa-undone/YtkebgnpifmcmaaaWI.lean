import Derived.Test.YtkebgnpifmcmaaaBwt
namespace Go.Proofs.Ytkebgnpifmcmaaa
open Go.RowKit

theorem byN_eq (s : ByteArray) : byN s = bN (tx s) := by
  funext i
  by_cases h : i < s.size
  · exact byN_tx s i h
  · simp [byN, bN, h, List.getD_eq_getElem?_getD, List.getElem?_eq_none (show (tx s).length ≤ i by rw [tx_length]; omega)]

theorem Row.setB {w : World} {g : Nat} {e : TypeId} {n : Nat} {f : Nat → UInt8} (h : Row w g e n (IB f)) (j : Nat) (x : UInt8) : Row (w.setCell ⟨g, j, none⟩ (.int .u8 (x.toNat : Int))) g e n (IB (upd f j x)) := by
  rw [← updV_IB]; exact h.set j _

/-- 'string(b)', b a row of bytes. -/
theorem conv_row {w : World} {g cap : Nat} {l : List UInt8} {f : Nat → UInt8} (h : Row w g 5 l.length (IB f)) (hf : ∀ j, j < l.length → f j = l.getD j 0) : (convert 60 9 (.slice (some ⟨g, 0, none⟩) l.length cap)).run Try.prog w = .ok (.string (bs l)) w :=
  run_convert_bytes_back w 60 9 5 ⟨g, 0, none⟩ cap l Try.underlying60 Try.underlying5 Try.underlying9 (fun j hj => by
    have h1 := h.cell hj
    have h2 : (⟨g, 0, none⟩ : Addr).add j = ⟨g, j, none⟩ := by
      unfold Addr.add
      by_cases e : j = 0
      · simp [e]
      · simp [e]
    rw [h2, h1, IB_at, hf j hj]
    simp [List.getD_eq_getElem?_getD, hj])

set_option maxRecDepth 10000 in
set_option maxHeartbeats 400000 in
theorem indexOfRow_any (r e : Nat) (w : World) (hr : r ≤ 3000) (he : e ≤ 3000) : Calls Try.prog 57 #[.int .i64 (r : Int), .int .i64 (e : Int)] w fun en w' => en = .returned (.int .i64 ((idx e r : Nat) : Int)) ∧ w = w' := by
  by_cases h : e < r
  · have hx : Hid (((idx e r : Nat) : Int) = (r : Int) - 1) := by show ((idx e r : Nat) : Int) = _; unfold idx; rw [if_pos h]; omega
    go_enter Try.func57, Try.ntmps57
    go_wp2
    go_ret
    exact ⟨by rw [hx.out]; rfl, rfl⟩
  · have hx : Hid (((idx e r : Nat) : Int) = (r : Int)) := by show ((idx e r : Nat) : Int) = _; unfold idx; rw [if_neg h]
    go_enter Try.func57, Try.ntmps57
    go_wp2
    go_ret
    exact ⟨by rw [hx.out]; rfl, rfl⟩

/-- The way back from row 0 does not come to the END too early. -/
def okBack (L : List UInt8) (e : Nat) : Prop := ∀ j, j < L.length → rr (bN L) L.length e j ≠ e

set_option maxRecDepth 10000 in
set_option maxHeartbeats 400000 in
theorem rowsIn_out (s : ByteArray) (x : Int) (w : World) (hn : s.size ≤ 2000) (hx : x < 0 ∨ (s.size : Int) < x) :
    Calls Try.prog 56 #[.string s, .int .i64 x] w fun en w' => en = .returned (.tuple #[.slice none 0 0, .bool false]) ∧ w' = w := by
  rcases hx with h | h
  · have hd : decide (x < 0) = true := by simpa using h
    go_enter Try.func56, Try.ntmps56
    go_wp2_with fail
    go_ret2
    exact ⟨rfl, rfl⟩
  · have hd : decide (x < 0) = false := by simp; omega
    have hd2 : decide ((s.size : Int) < x) = true := by simpa using h
    go_enter Try.func56, Try.ntmps56
    go_wp2_with fail
    go_ret2
    exact ⟨rfl, rfl⟩

/-- The row of a place's suffix, by the way back. -/
def wayRow (L : List UInt8) (e : Nat) (p : Nat) : Nat := rr (bN L) L.length e (L.length - p)

set_option maxRecDepth 10000 in
set_option maxHeartbeats 1000000 in
theorem rowsIn_any (s : ByteArray) (e : Nat) (w : World) (hn : s.size ≤ 2000) (he : e ≤ s.size) :
    Calls Try.prog 56 #[.string s, .int .i64 (e : Int)] w fun en w' =>
      ((okBack (tx s) e ∧ ∃ g cap, en = .returned (.tuple #[.slice (some ⟨g, 0, none⟩) (s.size + 1) cap, .bool true]) ∧ s.size + 1 ≤ cap ∧ cap ≤ maxLen ∧ w.heap.size ≤ g ∧ Row w' g 3 (s.size + 1) (IN (wayRow (tx s) e))) ∨
        (¬ okBack (tx s) e ∧ en = .returned (.tuple #[.slice none 0 0, .bool false]))) ∧ Below w.heap.size w w' := by
  obtain ⟨i0, hi, hz0, hz1, hz2⟩ := info_parts Try.info3
  have hl := tx_length s
  have HL : Hid ((tx s).length = s.size) := hl
  clear hl
  go_enter Try.func56, Try.ntmps56
  go_wp2_with fail
  refine (rowsBegunBy_any s _ hn).mono ?_
  rintro en w1 ⟨gl, capl, rfl, _, _, hgl, hrl, hb1⟩
  have hsz1 := hb1.size
  go_wp2_with (at_make; refine wpList_make_full _ rfl _ _ 22 rfl w1.heap.size 3 i0 (.int .i64 0) 1 Try.underlying22 hi hz0 hz1 .i64 .i64 _ _ (s.size + 1) rfl rfl (by omega) (by omega) (by rw [hz2]; omega) (by unfold maxLen; omega) (by omega) ?_; intro w2 hown hgr)
  have hrow := Row.made hown
  have hb2 := hb1.grown hgr hsz1 (fun _ h => by cases h)
  have hrl2 := hrl.grown hgr (by simp)
  have hllt := hrl.lt
  obtain ⟨G, hG⟩ : ∃ G, G = w1.heap.size := ⟨_, rfl⟩
  rw [← hG] at hrow hllt hsz1 ⊢
  clear hown hgr hrl hb1 hG
  go_loopw [8] (fun p wr => ∃ k : Nat, k ≤ s.size ∧ p = .int .i64 ((s.size : Int) - (k : Int)) ∧
      (∃ tf, Row wr G 3 (s.size + 1) (IN tf) ∧ Hid (∀ j, j < k + 1 → tf (s.size - j) = rr (bN (tx s)) (tx s).length e j)) ∧ Hid (∀ j, j < k → rr (bN (tx s)) (tx s).length e j ≠ e) ∧
      Row wr gl 3 s.size (IN fun j => 1 + rk (byN s) s.size j) ∧ Below w.heap.size w wr) (fun p _ => (intOf p).toNat)
  case atStart => exact ⟨0, Nat.zero_le _, by go_num, ⟨fun _ => 0, hrow, fun j hj => (by rw [show j = 0 from by omega]; rfl)⟩, fun j hj => by omega, hrl2, hb2⟩
  case round =>
    clear hrow hrl2 hb2
    obtain ⟨k, hk, rfl, ⟨tf, ht, HT⟩, HN, hr, hb⟩ := hrel
    have hrle := rr_le (b := bN (tx s)) (show e ≤ (tx s).length by rw [HL.out]; exact he) (k := k) HN.out
    have htk := HT.out k (by omega)
    by_cases hlt : k < s.size
    · have hc0 := ht.cell (show s.size - k < s.size + 1 by omega)
      rw [IN_at, htk] at hc0
      by_cases hre : rr (bN (tx s)) (tx s).length e k = e
      · have hbe : ((rr (bN (tx s)) (tx s).length e k : Int) == (e : Int)) = true := by simp [hre]
        have HX : Hid (¬ okBack (tx s) e) := fun h => h k (by rw [HL.out]; exact hlt) hre
        clear hre hrle htk
        generalize rr (bN (tx s)) (tx s).length e k = R at *
        go_wp2_with fail
        go_ret2
        exact ⟨.inr ⟨HX.out, rfl⟩, hb⟩
      · have hbe : ((rr (bN (tx s)) (tx s).length e k : Int) == (e : Int)) = false := by simp; omega
        have HNE : Hid (rr (bN (tx s)) (tx s).length e k ≠ e) := hre
        have hat : idx e (rr (bN (tx s)) (tx s).length e k) < s.size := by rw [← HL.out]; exact idx_lt hrle (by rw [HL.out]; exact he) hre
        have HR : Hid (rr (bN (tx s)) (tx s).length e (k + 1) = 1 + rk (byN s) s.size (idx e (rr (bN (tx s)) (tx s).length e k))) := by
          show rr (bN (tx s)) (tx s).length e (k + 1) = _
          rw [rr_succ, byN_eq, HL.out]
        have hrle2 : rr (bN (tx s)) (tx s).length e k ≤ s.size := Nat.le_trans hrle (Nat.le_of_eq HL.out)
        clear hre hrle htk
        generalize hRdef : rr (bN (tx s)) (tx s).length e k = R at *
        have HRD : Hid (rr (bN (tx s)) (tx s).length e k = R) := hRdef
        clear hRdef
        generalize hI : idx e R = I at *
        have HI : Hid (idx e R = I) := hI
        clear hI
        have hc1 := hr.cell hat
        rw [IN_at] at hc1
        have hc2 := ht.cell (show s.size - k - 1 < s.size + 1 by omega)
        have hfz := ht.free (s.size - k - 1)
        go_wp2_with fail
        refine (indexOfRow_any R e _ (by omega) (by omega)).mono ?_
        rintro en w3 ⟨rfl, rfl⟩
        rw [HI.out]
        go_wp2
        go_roundw
        case rel =>
          refine ⟨k + 1, by omega, by go_num, ⟨_, ht.setN (s.size - k - 1) (1 + rk (byN s) s.size I), fun j hj => ?_⟩, fun j hj => ?_, hr.setOther (by show gl ≠ G; omega) _, hb.setCell hsz1 _⟩
          · by_cases ej : j = k + 1
            · subst ej; rw [show s.size - (k + 1) = s.size - k - 1 from by omega, upd_at]; exact HR.out.symm
            · rw [upd_ne _ _ _ (by omega)]; exact HT.out j (by omega)
          · by_cases ej : j = k
            · subst ej; rw [HRD.out]; exact HNE.out
            · exact HN.out j (by omega)
        case measure => simp [intOf]; omega
    · have hkn : k = s.size := by omega
      subst hkn
      have HX : Hid (okBack (tx s) e) := fun j hj => HN.out j (by rw [← HL.out]; exact hj)
      clear hrle htk
      go_wp2
      go_ret2
      refine ⟨.inl ⟨HX.out, G, _, rfl, Nat.le_refl _, by unfold maxLen; omega, hsz1, ht.congr (fun j hj => ?_)⟩, hb⟩
      simp only [IN, wayRow]
      have := HT.out (s.size - j) (by omega)
      rw [show s.size - (s.size - j) = j from by omega] at this
      rw [this, HL.out]

set_option maxRecDepth 10000 in
set_option maxHeartbeats 400000 in
theorem restoreIn_out (s : ByteArray) (x : Int) (w : World) (hn : s.size ≤ 2000) (hx : x < 0 ∨ (s.size : Int) < x) :
    Calls Try.prog 40 #[.string s, .int .i64 x] w fun en w' => en = .returned (.tuple #[.string ByteArray.empty, .bool false]) ∧ w' = w := by
  go_enter Try.func40, Try.ntmps40
  go_wp2_with fail
  refine (rowsIn_out s x _ hn hx).mono ?_
  rintro en w1 ⟨rfl, rfl⟩
  go_wp2_with fail
  go_ret2
  exact ⟨rfl, rfl⟩

set_option maxRecDepth 10000 in
set_option maxHeartbeats 1000000 in
theorem restoreIn_any (s : ByteArray) (e : Nat) (w : World) (hn : s.size ≤ 2000) (he : e ≤ s.size) :
    Calls Try.prog 40 #[.string s, .int .i64 (e : Int)] w fun en w' =>
      ((okBack (tx s) e ∧ en = .returned (.tuple #[.string (bs (backText (tx s) e)), .bool true])) ∨ (¬ okBack (tx s) e ∧ en = .returned (.tuple #[.string ByteArray.empty, .bool false]))) ∧ Below w.heap.size w w' := by
  obtain ⟨i0, hi, hz0, hz1, hz2⟩ := info_parts Try.info5
  have hl := tx_length s
  have HL : Hid ((tx s).length = s.size) := hl
  clear hl
  go_enter Try.func40, Try.ntmps40
  go_wp2_with fail
  refine (rowsIn_any s e _ hn he).mono ?_
  rintro en w1 ⟨h | h, hb1⟩
  · obtain ⟨hok, gl, capl, rfl, _, _, hgl, hrl⟩ := h
    have hsz1 := hb1.size
    go_wp2_with (at_make; refine wpList_make_full _ rfl _ _ 60 rfl w1.heap.size 5 i0 (.int .u8 0) 1 Try.underlying60 hi hz0 hz1 .i64 .i64 _ _ s.size rfl rfl (by omega) (by omega) (by rw [hz2]; omega) (by unfold maxLen; omega) (by omega) ?_; intro w2 hown hgr)
    have hrow := Row.made hown
    have hb2 := hb1.grown hgr hsz1 (fun _ h => by cases h)
    have hrl2 := hrl.grown hgr (by simp)
    have hllt := hrl.lt
    obtain ⟨G, hG⟩ : ∃ G, G = w1.heap.size := ⟨_, rfl⟩
    rw [← hG] at hrow hllt hsz1 ⊢
    clear hown hgr hrl hb1 hG
    have HOK : Hid (okBack (tx s) e) := hok
    clear hok
    go_loopw [23, 9] (fun p _ wr => ∃ k : Nat, k ≤ s.size ∧ p = .int .i64 (k : Int) ∧
      (∃ tf, Row wr G 5 s.size (IB tf) ∧ Hid (∀ j, j < k → tf j = (tx s).getD (idx e (wayRow (tx s) e (j + 1))) 0)) ∧
      Row wr gl 3 (s.size + 1) (IN (wayRow (tx s) e)) ∧ Below w.heap.size w wr) (fun p _ _ => s.size - (intOf p).toNat)
    case atStart => exact ⟨0, Nat.zero_le _, rfl, ⟨fun _ => 0, hrow, fun j hj => by omega⟩, hrl2, hb2⟩
    case round =>
      clear hrow hrl2 hb2
      obtain ⟨k, hk, rfl, ⟨tf, ht, HT⟩, hr, hb⟩ := hrel
      by_cases hlt : k < s.size
      · have hrle : wayRow (tx s) e (k + 1) ≤ s.size := by
          have := rr_le (b := bN (tx s)) (show e ≤ (tx s).length by rw [HL.out]; exact he) (k := (tx s).length - (k + 1)) (fun j hj => HOK.out j (by omega))
          unfold wayRow; rw [HL.out] at this ⊢; exact this
        have hne : wayRow (tx s) e (k + 1) ≠ e := HOK.out _ (by rw [HL.out]; omega)
        have hat : idx e (wayRow (tx s) e (k + 1)) < s.size := by rw [← HL.out]; exact idx_lt (by rw [HL.out]; exact hrle) (by rw [HL.out]; exact he) hne
        have HG : Hid (s[idx e (wayRow (tx s) e (k + 1))] = (tx s).getD (idx e (wayRow (tx s) e (k + 1))) 0) := (tx_getD s _ hat).symm
        have hc0 := hr.cell (show k + 1 < s.size + 1 by omega)
        rw [IN_at] at hc0
        clear hne
        generalize hRdef : wayRow (tx s) e (k + 1) = R at *
        have HRD : Hid (wayRow (tx s) e (k + 1) = R) := hRdef
        clear hRdef
        generalize hI : idx e R = I at *
        have HI : Hid (idx e R = I) := hI
        clear hI
        have hc2 := ht.cell hlt
        have hfz := ht.free k
        go_wp2_with fail
        refine (indexOfRow_any R e _ (by omega) (by omega)).mono ?_
        rintro en w3 ⟨rfl, rfl⟩
        rw [HI.out]
        go_wp2
        go_roundw
        case rel =>
          refine ⟨k + 1, by omega, by go_num, ⟨_, ht.setB k s[I], upd_next HT.out ?_⟩, hr.setOther (by show gl ≠ G; omega) _, hb.setCell hsz1 _⟩
          rw [HRD.out, HI.out]; exact HG.out
        case measure => simp [intOf]; omega
      · have hkn : k = s.size := by omega
        subst hkn
        have hbl : Hid ((backText (tx s) e).length = s.size) := by show (backText (tx s) e).length = _; rw [backText_length, HL.out]
        have hcv : ∀ cap, (convert 60 9 (.slice (some ⟨G, 0, none⟩) s.size cap)).run Try.prog wr = .ok (.string (bs (backText (tx s) e))) wr := by
          intro cap
          rw [← hbl.out] at ht ⊢
          refine conv_row ht (fun j hj => ?_)
          rw [hbl.out] at hj
          have h1 := HT.out j hj
          have h2 := backText_get (tx s) e (s.size - 1 - j) (by rw [HL.out]; omega) (by rw [hbl.out, HL.out]; omega)
          have h3 : (tx s).length - 1 - (s.size - 1 - j) = j := by rw [HL.out]; omega
          have h4 : (tx s).length - (j + 1) = s.size - 1 - j := by rw [HL.out]; omega
          rw [h1, wayRow, h4, List.getD_eq_getElem?_getD (l := backText (tx s) e), List.getElem?_eq_getElem (show j < (backText (tx s) e).length by rw [hbl.out]; exact hj), Option.getD_some, ← h2]
          congr 1
        go_wp2
        go_ret2
        exact ⟨.inl ⟨HOK.out, rfl⟩, hb⟩
  · obtain ⟨hok, rfl⟩ := h
    go_wp2_with fail
    go_ret2
    exact ⟨.inr ⟨hok, rfl⟩, hb1⟩

end Go.Proofs.Ytkebgnpifmcmaaa
