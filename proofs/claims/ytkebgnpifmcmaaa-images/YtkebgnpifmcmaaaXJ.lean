import Derived.Test.YtkebgnpifmcmaaaXI
namespace Go.Proofs.Ytkebgnpifmcmaaa
open Go.RowKit

/-- The first i of the bytes, and the last i, exchanged. -/
def swp (f : Nat → UInt8) (n i m : Nat) : UInt8 := if m < i ∨ n - 1 - m < i then f (n - 1 - m) else f m

/-- Bytes in a block, whatever else it bears. -/
def BytesAt (w : World) (g n : Nat) (f : Nat → UInt8) : Prop := ∀ j, j < n → w.cell? ⟨g, j, none⟩ = some (.int .u8 ((f j).toNat : Int)) ∧ w.frozen? ⟨g, j, none⟩ = false
theorem BytesAt.cell {w : World} {g n : Nat} {f : Nat → UInt8} (h : BytesAt w g n f) {j : Nat} (hj : j < n) : w.cell? ⟨g, j, none⟩ = some (IB f j) := (h j hj).1
theorem BytesAt.congr {w : World} {g n : Nat} {f f' : Nat → UInt8} (h : BytesAt w g n f) (he : ∀ j, j < n → IB f j = IB f' j) : BytesAt w g n f' := fun j hj => ⟨by rw [(h j hj).1]; exact congrArg some (he j hj), (h j hj).2⟩
theorem BytesAt.drew {w : World} {g n : Nat} {f : Nat → UInt8} (h : BytesAt w g n f) : BytesAt w.drew g n f := h
theorem BytesAt.setB {w : World} {g n : Nat} {f : Nat → UInt8} (h : BytesAt w g n f) (j : Nat) (hj : j < n) (x : UInt8) : BytesAt (w.setCell ⟨g, j, none⟩ (.int .u8 (x.toNat : Int))) g n (upd f j x) := fun i hi => by
  refine ⟨?_, by simpa using (h i hi).2⟩
  by_cases e : i = j
  · subst e; rw [World.cell?_setCell_same _ _ _ (h i hi).1, upd_at]
  · rw [World.cell?_setCell_other _ _ _ _ (by intro h; exact e (by simpa using congrArg Addr.off h.symm)), (h i hi).1, upd_ne _ _ _ e]

set_option maxRecDepth 10000 in
set_option maxHeartbeats 400000 in
theorem reverse_any (g n cap : Nat) (f : Nat → UInt8) (w : World) (hn : n ≤ 3000) (hr : BytesAt w g n f) : Calls Try.prog 82 #[.slice (some ⟨g, 0, none⟩) n cap] w fun e w' => e = .returned (.tuple #[]) ∧ BytesAt w' g n (fun j => f (n - 1 - j)) ∧ Below g w w' := by
  go_enter Try.func82, Try.ntmps82
  go_wp2_with fail
  go_loopw [2, 3] (fun iv jv wr => ∃ i : Nat, 2 * i ≤ n + 1 ∧ iv = .int .i64 (i : Int) ∧ jv = .int .i64 ((n : Int) - 1 - (i : Int)) ∧ BytesAt wr g n (swp f n i) ∧ Below g w wr) (fun iv _ _ => n - (intOf iv).toNat)
  case atStart => exact ⟨0, by omega, rfl, by go_num, hr.congr (fun j hj => by simp only [IB, swp]; rw [if_neg (by omega)]), Below.refl _ _⟩
  case round =>
    clear hr
    obtain ⟨i, hi, rfl, rfl, hr, hb⟩ := hrel
    by_cases hlt : 2 * i + 1 < n
    · have hc1 := hr.cell (show i < n by omega)
      have hc2 := hr.cell (show n - 1 - i < n by omega)
      rw [IB_at] at hc1 hc2
      have hf1 := (hr i (by omega)).2
      have hf2 := (hr (n - 1 - i) (by omega)).2
      have hq1 : (i : Int) < (n : Int) := by omega
      have hq2 : (0 : Int) ≤ (n : Int) - 1 - (i : Int) := by omega
      have hq3 : (n : Int) - 1 - (i : Int) < (n : Int) := by omega
      have hq4 : ((n : Int) - 1 - (i : Int)).toNat = n - 1 - i := by omega
      have HN : Hid (∀ j, j < n → upd (upd (swp f n i) i (swp f n i (n - 1 - i))) (n - 1 - i) (swp f n i i) j = swp f n (i + 1) j) := by
        intro j hj
        have e1 : swp f n i i = f i := by rw [swp, if_neg (by omega)]
        have e2 : swp f n i (n - 1 - i) = f (n - 1 - i) := by rw [swp, if_neg (by omega)]
        rw [e1, e2]
        by_cases h1 : j = n - 1 - i
        · rw [h1, upd_at, swp, if_pos (by omega)]; congr 1; omega
        · rw [upd_ne _ _ _ h1]
          by_cases h2 : j = i
          · rw [h2, upd_at, swp, if_pos (by omega)]
          · rw [upd_ne _ _ _ h2]
            by_cases h3 : j < i ∨ n - 1 - j < i
            · rw [swp, swp, if_pos h3, if_pos (by omega)]
            · rw [swp, swp, if_neg h3, if_neg (by omega)]
      go_wp2_with fail
      go_region
      all_goals go_wp2
      all_goals go_roundw
      case rel => exact ⟨i + 1, by omega, by go_num, by go_num, (((hr.setB i (by omega) (swp f n i (n - 1 - i))).setB (n - 1 - i) (by omega) (swp f n i i)).congr (fun j hj => by simp only [IB, HN.out j hj])).drew, ((hb.setCell (Nat.le_refl _) _).setCell (Nat.le_refl _) _).drew⟩
      case measure => simp [intOf]; omega
    · have hlt2 : ¬ ((i : Int) < (n : Int) - 1 - (i : Int)) := by omega
      go_wp2
      go_end0
      refine ⟨rfl, hr.congr (fun j hj => ?_), hb⟩
      simp only [IB, swp]
      by_cases h3 : j < i ∨ n - 1 - j < i
      · rw [if_pos h3]
      · rw [if_neg h3, show n - 1 - j = j from by omega]

/-- A text, read backwards. -/
def revS (s : ByteArray) : ByteArray := bs (tx s).reverse
theorem revS_size (s : ByteArray) : (revS s).size = s.size := by rw [revS, bs_size, List.length_reverse, tx_length]
theorem tx_revS (s : ByteArray) : tx (revS s) = (tx s).reverse := tx_bs _
theorem revS_revS (s : ByteArray) : revS (revS s) = s := by rw [revS, tx_revS, List.reverse_reverse, bs_tx]

set_option maxRecDepth 10000 in
set_option maxHeartbeats 400000 in
theorem reversed_any (s : ByteArray) (w : World) (hn : s.size ≤ 2000) : Calls Try.prog 62 #[.string s] w fun e w' => e = .returned (.string (revS s)) ∧ Below w.heap.size w w' := by
  have hcv : ∀ w, (convert 9 60 (.string s)).run Try.prog w = .ok (.slice (some ⟨w.heap.size, 0, none⟩) s.size (grownCap w s.size 0 5)) (w.drew.alloc (.cells (bytesRow s (grownCap w s.size 0 5)) 5 ((bytesRow s (grownCap w s.size 0 5)).size, (bytesRow s (grownCap w s.size 0 5)).size + 1))) := fun w => run_bytes_of_string w 9 60 5 s Try.underlying9 Try.underlying60 Try.underlying5
  have hcv1 := hcv w
  clear hcv
  generalize grownCap w s.size 0 5 = cap at hcv1
  have hb0 : Below w.heap.size w (w.drew.alloc (.cells (bytesRow s cap) 5 ((bytesRow s cap).size, (bytesRow s cap).size + 1))) := ((Below.refl _ _).drew).alloc (Nat.le_refl _) _
  have hB : BytesAt (w.drew.alloc (.cells (bytesRow s cap) 5 ((bytesRow s cap).size, (bytesRow s cap).size + 1))) w.heap.size s.size (fun j => (tx s).getD j 0) := by
    have hh : (w.drew.alloc (.cells (bytesRow s cap) 5 ((bytesRow s cap).size, (bytesRow s cap).size + 1))).heap[w.heap.size]? = some (.cells (bytesRow s cap) 5 ((bytesRow s cap).size, (bytesRow s cap).size + 1)) := heap_alloc_new w.drew _
    intro j hj
    refine ⟨?_, ?_⟩
    · rw [cell_of_row _ _ _ _ _ _ hh, bytesRow_at s cap j hj]
      show _ = some (Value.int .u8 (((tx s).getD j 0).toNat : Int))
      rw [tx_getD s j hj]; rfl
    · simp only [World.frozen?, hh]
      have hsz : s.size ≤ (bytesRow s cap).size := by
        rw [bytesRow, Array.size_append, Array.size_map]
        exact Nat.le_add_right _ _
      simp; omega
  generalize w.drew.alloc (.cells (bytesRow s cap) 5 ((bytesRow s cap).size, (bytesRow s cap).size + 1)) = W0 at *
  go_enter Try.func62, Try.ntmps62
  go_wp2_with fail
  refine (reverse_any w.heap.size s.size cap _ W0 (by omega) hB).mono ?_
  rintro e w1 ⟨rfl, hB1, hb1⟩
  have hcv2 : ∀ cap, (convert 60 9 (.slice (some ⟨w.heap.size, 0, none⟩) s.size cap)).run Try.prog w1 = .ok (.string (revS s)) w1 := fun cap => by
    have hl : s.size = ((tx s).reverse).length := by rw [List.length_reverse, tx_length]
    rw [hl]
    refine run_convert_bytes_back w1 60 9 5 ⟨w.heap.size, 0, none⟩ cap (tx s).reverse Try.underlying60 Try.underlying5 Try.underlying9 (fun j hj => ?_)
    have h2 : (⟨w.heap.size, 0, none⟩ : Addr).add j = ⟨w.heap.size, j, none⟩ := by
      unfold Addr.add
      by_cases e : j = 0
      · simp [e]
      · simp [e]
    rw [← hl] at hj
    rw [h2, (hB1 j hj).1]
    have hl2 := tx_length s
    show some (Value.int .u8 (((tx s).getD (s.size - 1 - j) 0).toNat : Int)) = _
    rw [List.getElem_reverse, List.getD_eq_getElem?_getD, List.getElem?_eq_getElem (by omega), Option.getD_some]
    simp only [hl2]
  go_wp2
  go_ret
  exact ⟨rfl, hb0.trans hb1⟩

set_option maxRecDepth 10000 in
set_option maxHeartbeats 1000000 in
theorem side_text (w : World) (g off e : Nat) (s : ByteArray) (h : SideP w g off s e) (hn : s.size ≤ 2000) (he : e ≤ s.size) (hok : okBack (tx s) e) : Calls Try.prog 45 #[.pointer (some ⟨g, off, none⟩)] w fun en w' => en = .returned (.string (bs (backText (tx s) e))) ∧ Below w.heap.size w w' := by
  obtain ⟨i0, hi, hz0, hz1, hz2⟩ := info_parts Try.info5
  have HL : Hid ((tx s).length = s.size) := tx_length s
  have HOK : Hid (okBack (tx s) e) := hok
  clear hok
  obtain ⟨v, h1, h2, h3, h4⟩ := id h
  obtain ⟨t, x, kS, kA, kC, rfl, ⟨hm, hen⟩, _, _, HS, _, _⟩ := h4.ops hn
  clear h4
  go_enter Try.func45, Try.ntmps45
  go_wp2_with fail
  refine (HS.out w (Below.refl _ _)).mono ?_
  rintro en w1 ⟨rfl, rfl⟩
  clear HS hm hen
  go_wp2_with (at_make; refine wpList_make_full _ rfl _ _ 60 rfl w1.heap.size 5 i0 (.int .u8 0) 1 Try.underlying60 hi hz0 hz1 .i64 .i64 _ _ s.size rfl rfl (by omega) (by omega) (by rw [hz2]; omega) (by unfold maxLen; omega) (by omega) ?_; intro w2 hown hgr)
  have hrow := Row.made hown
  have hb2 := below_made hgr
  clear hown hgr h1 h2 h3
  obtain ⟨G, hG⟩ : ∃ G, G = w1.heap.size := ⟨_, rfl⟩
  rw [← hG] at hrow ⊢
  have hGw : w1.heap.size ≤ G := by omega
  clear hG
  go_loopw [4, 5] (fun r p wr => ∃ k : Nat, k ≤ s.size ∧ p = .int .i64 ((s.size : Int) - 1 - (k : Int)) ∧ r = .int .i64 ((rr (bN (tx s)) (tx s).length e k : Nat) : Int) ∧
      (∃ tf, Row wr G 5 s.size (IB tf) ∧ Hid (∀ j, j < k → tf (s.size - 1 - j) = (tx s).getD (idx e (rr (bN (tx s)) (tx s).length e j)) 0)) ∧ Below w1.heap.size w1 wr) (fun _ p _ => (intOf p + 1).toNat)
  case atStart => exact ⟨0, Nat.zero_le _, by go_num, rfl, ⟨fun _ => 0, hrow, fun j hj => by omega⟩, hb2⟩
  case round =>
    clear hrow hb2
    obtain ⟨k, hk, rfl, rfl, ⟨tf, ht, HT⟩, hb⟩ := hrel
    by_cases hlt : k < s.size
    · have hrle := rr_le (b := bN (tx s)) (show e ≤ (tx s).length by rw [HL.out]; exact he) (k := k) (fun j hj => HOK.out j (by rw [HL.out]; omega))
      have hre : rr (bN (tx s)) (tx s).length e k ≠ e := HOK.out k (by rw [HL.out]; exact hlt)
      have hat : idx e (rr (bN (tx s)) (tx s).length e k) < s.size := by rw [← HL.out]; exact idx_lt hrle (by rw [HL.out]; exact he) hre
      have HR : Hid (rr (bN (tx s)) (tx s).length e (k + 1) = 1 + rk (byN s) s.size (idx e (rr (bN (tx s)) (tx s).length e k))) := by
        show rr (bN (tx s)) (tx s).length e (k + 1) = _
        rw [rr_succ, byN_eq, HL.out]
      have HG : Hid (s[idx e (rr (bN (tx s)) (tx s).length e k)] = (tx s).getD (idx e (rr (bN (tx s)) (tx s).length e k)) 0) := (tx_getD s _ hat).symm
      have hrle2 : rr (bN (tx s)) (tx s).length e k ≤ s.size := Nat.le_trans hrle (Nat.le_of_eq HL.out)
      have HC : Hid _ := side_ahead wr g off e (rr (bN (tx s)) (tx s).length e k) s (h.below hb) hn he hrle2 hre hat
      have HRE : Hid (rr (bN (tx s)) (tx s).length e k ≠ e) := hre
      clear hrle hre
      generalize hRdef : rr (bN (tx s)) (tx s).length e k = R at *
      have HRD : Hid (rr (bN (tx s)) (tx s).length e k = R) := hRdef
      clear hRdef
      go_wp2_with fail
      refine Calls.mono HC.out ?_
      clear HC
      rintro en w3 ⟨rfl, hb3⟩
      have ht3 := ht.below hb3 ht.lt
      have hbb := hb.trans (hb3.mono hb.size)
      have hc2 := ht3.cell (show s.size - 1 - k < s.size by omega)
      have hfz := ht3.free (s.size - 1 - k)
      clear ht hb hb3
      generalize hI : idx e R = I at *
      have HI : Hid (idx e R = I) := hI
      clear hI
      go_wp2
      go_roundw
      case rel =>
        refine ⟨k + 1, by omega, by go_num, by rw [HR.out]; go_num, ⟨_, ht3.setB (s.size - 1 - k) s[I], fun j hj => ?_⟩, hbb.setCell hGw _⟩
        by_cases ej : j = k
        · subst ej; rw [upd_at, HRD.out, HI.out]; exact HG.out
        · rw [upd_ne _ _ _ (by omega)]; exact HT.out j (by omega)
      case measure => simp [intOf]; omega
    · have hkn : k = s.size := by omega
      subst hkn
      have hbl : Hid ((backText (tx s) e).length = s.size) := by show (backText (tx s) e).length = _; rw [backText_length, HL.out]
      have hcv : ∀ cap, (convert 60 9 (.slice (some ⟨G, 0, none⟩) s.size cap)).run Try.prog wr = .ok (.string (bs (backText (tx s) e))) wr := by
        intro cap
        rw [← hbl.out] at ht ⊢
        refine conv_row ht (fun j hj => ?_)
        rw [hbl.out] at hj
        have h1 := HT.out (s.size - 1 - j) (by omega)
        rw [show s.size - 1 - (s.size - 1 - j) = j from by omega] at h1
        have h2 := backText_get (tx s) e (s.size - 1 - j) (by rw [HL.out]; omega) (by rw [hbl.out, HL.out]; omega)
        have h3 : (tx s).length - 1 - (s.size - 1 - j) = j := by rw [HL.out]; omega
        rw [h1, List.getD_eq_getElem?_getD (l := backText (tx s) e), List.getElem?_eq_getElem (show j < (backText (tx s) e).length by rw [hbl.out]; exact hj), Option.getD_some, ← h2]
        congr 1
      generalize rr (bN (tx s)) (tx s).length e s.size = R at *
      go_wp2
      go_ret
      exact ⟨rfl, hb⟩
end Go.Proofs.Ytkebgnpifmcmaaa
