import Derived.Test.YtkebgnpifmcmaabGreatGD
import Derived.Test.YtkebgnpifmcmaabGreatGB
import Derived.Lib.AppendStr
import Derived.ArgAppend
namespace Go.Proofs.YtkebgnpifmcmaabGreat
open Go.RowKit

/-- The first i of the bytes, and the last i, exchanged. -/
def swp (f : Nat → UInt8) (n i m : Nat) : UInt8 := if m < i ∨ n - 1 - m < i then f (n - 1 - m) else f m

/-- Bytes in a block, whatever else it bears. -/
def BytesAt (w : World) (g n : Nat) (f : Nat → UInt8) : Prop := ∀ j, j < n → w.cell? ⟨g, j, none⟩ = some (.int .u8 ((f j).toNat : Int)) ∧ w.frozen? ⟨g, j, none⟩ = false
theorem BytesAt.cell {w : World} {g n : Nat} {f : Nat → UInt8} (h : BytesAt w g n f) {j : Nat} (hj : j < n) : w.cell? ⟨g, j, none⟩ = some (IB f j) := (h j hj).1
theorem BytesAt.congr {w : World} {g n : Nat} {f f' : Nat → UInt8} (h : BytesAt w g n f) (he : ∀ j, j < n → IB f j = IB f' j) : BytesAt w g n f' := fun j hj => ⟨by rw [(h j hj).1]; exact congrArg some (he j hj), (h j hj).2⟩
theorem BytesAt.drew {w : World} {g n : Nat} {f : Nat → UInt8} (h : BytesAt w g n f) : BytesAt w.drew g n f := h
theorem BytesAt.setB {w : World} {g n : Nat} {f : Nat → UInt8} (h : BytesAt w g n f) (j : Nat) (hj : j < n) (x : UInt8) : BytesAt (w.setCell ⟨g, j, none⟩ (.int .u8 (x.toNat : Int))) g n (upd f j x) := fun i hi => by
  refine ⟨?_, by simpa using (h i hi).2⟩
  by_cases e : i = j
  · subst e; rw [World.cell?_setCell_same _ _ _ (h i hi).1, upd_at]
  · rw [World.cell?_setCell_other _ _ _ _ (by intro h; exact e (by simpa using congrArg Addr.off h.symm)), (h i hi).1, upd_ne _ _ _ e]

set_option maxRecDepth 10000 in
set_option maxHeartbeats 400000 in
theorem reverse_any (g n cap : Nat) (f : Nat → UInt8) (w : World) (hn : n ≤ 3000) (hr : BytesAt w g n f) : Calls Tryz.prog 114 #[.slice (some ⟨g, 0, none⟩) n cap] w fun e w' => e = .returned (.tuple #[]) ∧ BytesAt w' g n (fun j => f (n - 1 - j)) ∧ Below g w w' := by
  go_enter Tryz.func114, Tryz.ntmps114
  go_wp2_with fail
  go_loopw [2, 3] (fun iv jv wr => ∃ i : Nat, 2 * i ≤ n + 1 ∧ iv = .int .i64 (i : Int) ∧ jv = .int .i64 ((n : Int) - 1 - (i : Int)) ∧ BytesAt wr g n (swp f n i) ∧ Below g w wr) (fun iv _ _ => n - (intOf iv).toNat)
  case atStart => exact ⟨0, by omega, rfl, by go_num, hr.congr (fun j hj => by simp only [IB, swp]; rw [if_neg (by omega)]), Below.refl _ _⟩
  case round =>
    clear hr
    obtain ⟨i, hi, rfl, rfl, hr, hb⟩ := hrel
    by_cases hlt : 2 * i + 1 < n
    · have hc1 := hr.cell (show i < n by omega)
      have hc2 := hr.cell (show n - 1 - i < n by omega)
      rw [IB_at] at hc1 hc2
      have hf1 := (hr i (by omega)).2
      have hf2 := (hr (n - 1 - i) (by omega)).2
      have hq1 : (i : Int) < (n : Int) := by omega
      have hq2 : (0 : Int) ≤ (n : Int) - 1 - (i : Int) := by omega
      have hq3 : (n : Int) - 1 - (i : Int) < (n : Int) := by omega
      have hq4 : ((n : Int) - 1 - (i : Int)).toNat = n - 1 - i := by omega
      have HN : Hid (∀ j, j < n → upd (upd (swp f n i) i (swp f n i (n - 1 - i))) (n - 1 - i) (swp f n i i) j = swp f n (i + 1) j) := by
        intro j hj
        have e1 : swp f n i i = f i := by rw [swp, if_neg (by omega)]
        have e2 : swp f n i (n - 1 - i) = f (n - 1 - i) := by rw [swp, if_neg (by omega)]
        rw [e1, e2]
        by_cases h1 : j = n - 1 - i
        · rw [h1, upd_at, swp, if_pos (by omega)]; congr 1; omega
        · rw [upd_ne _ _ _ h1]
          by_cases h2 : j = i
          · rw [h2, upd_at, swp, if_pos (by omega)]
          · rw [upd_ne _ _ _ h2]
            by_cases h3 : j < i ∨ n - 1 - j < i
            · rw [swp, swp, if_pos h3, if_pos (by omega)]
            · rw [swp, swp, if_neg h3, if_neg (by omega)]
      go_wp2_with fail
      go_region
      all_goals go_wp2
      all_goals go_roundw
      case rel => exact ⟨i + 1, by omega, by go_num, by go_num, (((hr.setB i (by omega) (swp f n i (n - 1 - i))).setB (n - 1 - i) (by omega) (swp f n i i)).congr (fun j hj => by simp only [IB, HN.out j hj])).drew, ((hb.setCell (Nat.le_refl _) _).setCell (Nat.le_refl _) _).drew⟩
      case measure => simp [intOf]; omega
    · have hlt2 : ¬ ((i : Int) < (n : Int) - 1 - (i : Int)) := by omega
      go_wp2
      go_end0
      refine ⟨rfl, hr.congr (fun j hj => ?_), hb⟩
      simp only [IB, swp]
      by_cases h3 : j < i ∨ n - 1 - j < i
      · rw [if_pos h3]
      · rw [if_neg h3, show n - 1 - j = j from by omega]

/-- A text, read backwards. -/
def revS (s : ByteArray) : ByteArray := bs (tx s).reverse
theorem revS_size (s : ByteArray) : (revS s).size = s.size := by rw [revS, bs_size, List.length_reverse, tx_length]
theorem tx_revS (s : ByteArray) : tx (revS s) = (tx s).reverse := tx_bs _
theorem revS_revS (s : ByteArray) : revS (revS s) = s := by rw [revS, tx_revS, List.reverse_reverse, bs_tx]

set_option maxRecDepth 10000 in
set_option maxHeartbeats 400000 in
theorem reversed_any (s : ByteArray) (w : World) (hn : s.size ≤ 2000) : Calls Tryz.prog 82 #[.string s] w fun e w' => e = .returned (.string (revS s)) ∧ Below w.heap.size w w' := by
  have hcv : ∀ w, (convert 9 75 (.string s)).run Tryz.prog w = .ok (.slice (some ⟨w.heap.size, 0, none⟩) s.size (grownCap w s.size 0 5)) (w.drew.alloc (.cells (bytesRow s (grownCap w s.size 0 5)) 5 ((bytesRow s (grownCap w s.size 0 5)).size, (bytesRow s (grownCap w s.size 0 5)).size + 1))) := fun w => run_bytes_of_string w 9 75 5 s Tryz.underlying9 Tryz.underlying75 Tryz.underlying5
  have hcv1 := hcv w
  clear hcv
  generalize grownCap w s.size 0 5 = cap at hcv1
  have hb0 : Below w.heap.size w (w.drew.alloc (.cells (bytesRow s cap) 5 ((bytesRow s cap).size, (bytesRow s cap).size + 1))) := ((Below.refl _ _).drew).alloc (Nat.le_refl _) _
  have hB : BytesAt (w.drew.alloc (.cells (bytesRow s cap) 5 ((bytesRow s cap).size, (bytesRow s cap).size + 1))) w.heap.size s.size (fun j => (tx s).getD j 0) := by
    have hh : (w.drew.alloc (.cells (bytesRow s cap) 5 ((bytesRow s cap).size, (bytesRow s cap).size + 1))).heap[w.heap.size]? = some (.cells (bytesRow s cap) 5 ((bytesRow s cap).size, (bytesRow s cap).size + 1)) := heap_alloc_new w.drew _
    intro j hj
    refine ⟨?_, ?_⟩
    · rw [cell_of_row _ _ _ _ _ _ hh, bytesRow_at s cap j hj]
      show _ = some (Value.int .u8 (((tx s).getD j 0).toNat : Int))
      rw [tx_getD s j hj]; rfl
    · simp only [World.frozen?, hh]
      have hsz : s.size ≤ (bytesRow s cap).size := by
        rw [bytesRow, Array.size_append, Array.size_map]
        exact Nat.le_add_right _ _
      simp; omega
  generalize w.drew.alloc (.cells (bytesRow s cap) 5 ((bytesRow s cap).size, (bytesRow s cap).size + 1)) = W0 at *
  go_enter Tryz.func82, Tryz.ntmps82
  go_wp2_with fail
  refine (reverse_any w.heap.size s.size cap _ W0 (by omega) hB).mono ?_
  rintro e w1 ⟨rfl, hB1, hb1⟩
  have hcv2 : ∀ cap, (convert 75 9 (.slice (some ⟨w.heap.size, 0, none⟩) s.size cap)).run Tryz.prog w1 = .ok (.string (revS s)) w1 := fun cap => by
    have hl : s.size = ((tx s).reverse).length := by rw [List.length_reverse, tx_length]
    rw [hl]
    refine run_convert_bytes_back w1 75 9 5 ⟨w.heap.size, 0, none⟩ cap (tx s).reverse Tryz.underlying75 Tryz.underlying5 Tryz.underlying9 (fun j hj => ?_)
    have h2 : (⟨w.heap.size, 0, none⟩ : Addr).add j = ⟨w.heap.size, j, none⟩ := by
      unfold Addr.add
      by_cases e : j = 0
      · simp [e]
      · simp [e]
    rw [← hl] at hj
    rw [h2, (hB1 j hj).1]
    have hl2 := tx_length s
    show some (Value.int .u8 (((tx s).getD (s.size - 1 - j) 0).toNat : Int)) = _
    rw [List.getElem_reverse, List.getD_eq_getElem?_getD, List.getElem?_eq_getElem (by omega), Option.getD_some]
    simp only [hl2]
  go_wp2
  go_ret
  exact ⟨rfl, hb0.trans hb1⟩

set_option maxRecDepth 10000 in
set_option maxHeartbeats 1000000 in
theorem side_text (w : World) (g off e : Nat) (s : ByteArray) (h : SideP w g off s e) (hn : s.size ≤ 2000) (he : e ≤ s.size) (hok : okBack (tx s) e) : Calls Tryz.prog 71 #[.pointer (some ⟨g, off, none⟩)] w fun en w' => en = .returned (.string (bs (backText (tx s) e))) ∧ Below w.heap.size w w' := by
  obtain ⟨i0, hi, hz0, hz1, hz2⟩ := info_parts Tryz.info5
  have HL : Hid ((tx s).length = s.size) := tx_length s
  have HOK : Hid (okBack (tx s) e) := hok
  clear hok
  obtain ⟨v, h1, h2, h3, h4⟩ := id h
  obtain ⟨t, x, kS, kA, kC, rfl, ⟨hm, hen⟩, _, _, HS, _, _⟩ := h4.ops hn
  clear h4
  go_enter Tryz.func71, Tryz.ntmps71
  go_wp2_with fail
  refine (HS.out w (Below.refl _ _)).mono ?_
  rintro en w1 ⟨rfl, rfl⟩
  clear HS hm hen
  go_wp2_with (at_make; refine wpList_make_full _ rfl _ _ 75 rfl w1.heap.size 5 i0 (.int .u8 0) 1 Tryz.underlying75 hi hz0 hz1 .i64 .i64 _ _ s.size rfl rfl (by omega) (by omega) (by rw [hz2]; omega) (by unfold maxLen; omega) (by omega) ?_; intro w2 hown hgr)
  have hrow := Row.made hown
  have hb2 := below_made hgr
  clear hown hgr h1 h2 h3
  obtain ⟨G, hG⟩ : ∃ G, G = w1.heap.size := ⟨_, rfl⟩
  rw [← hG] at hrow ⊢
  have hGw : w1.heap.size ≤ G := by omega
  clear hG
  go_loopw [4, 5] (fun r p wr => ∃ k : Nat, k ≤ s.size ∧ p = .int .i64 ((s.size : Int) - 1 - (k : Int)) ∧ r = .int .i64 ((rr (bN (tx s)) (tx s).length e k : Nat) : Int) ∧
      (∃ tf, Row wr G 5 s.size (IB tf) ∧ Hid (∀ j, j < k → tf (s.size - 1 - j) = (tx s).getD (idx e (rr (bN (tx s)) (tx s).length e j)) 0)) ∧ Below w1.heap.size w1 wr) (fun _ p _ => (intOf p + 1).toNat)
  case atStart => exact ⟨0, Nat.zero_le _, by go_num, rfl, ⟨fun _ => 0, hrow, fun j hj => by omega⟩, hb2⟩
  case round =>
    clear hrow hb2
    obtain ⟨k, hk, rfl, rfl, ⟨tf, ht, HT⟩, hb⟩ := hrel
    by_cases hlt : k < s.size
    · have hrle := rr_le (b := bN (tx s)) (show e ≤ (tx s).length by rw [HL.out]; exact he) (k := k) (fun j hj => HOK.out j (by rw [HL.out]; omega))
      have hre : rr (bN (tx s)) (tx s).length e k ≠ e := HOK.out k (by rw [HL.out]; exact hlt)
      have hat : idx e (rr (bN (tx s)) (tx s).length e k) < s.size := by rw [← HL.out]; exact idx_lt hrle (by rw [HL.out]; exact he) hre
      have HR : Hid (rr (bN (tx s)) (tx s).length e (k + 1) = 1 + rk (byN s) s.size (idx e (rr (bN (tx s)) (tx s).length e k))) := by
        show rr (bN (tx s)) (tx s).length e (k + 1) = _
        rw [rr_succ, byN_eq, HL.out]
      have HG : Hid (s[idx e (rr (bN (tx s)) (tx s).length e k)] = (tx s).getD (idx e (rr (bN (tx s)) (tx s).length e k)) 0) := (tx_getD s _ hat).symm
      have hrle2 : rr (bN (tx s)) (tx s).length e k ≤ s.size := Nat.le_trans hrle (Nat.le_of_eq HL.out)
      have HC : Hid _ := side_ahead wr g off e (rr (bN (tx s)) (tx s).length e k) s (h.below hb) hn he hrle2 hre hat
      have HRE : Hid (rr (bN (tx s)) (tx s).length e k ≠ e) := hre
      clear hrle hre
      generalize hRdef : rr (bN (tx s)) (tx s).length e k = R at *
      have HRD : Hid (rr (bN (tx s)) (tx s).length e k = R) := hRdef
      clear hRdef
      go_wp2_with fail
      refine Calls.mono HC.out ?_
      clear HC
      rintro en w3 ⟨rfl, hb3⟩
      have ht3 := ht.below hb3 ht.lt
      have hbb := hb.trans (hb3.mono hb.size)
      have hc2 := ht3.cell (show s.size - 1 - k < s.size by omega)
      have hfz := ht3.free (s.size - 1 - k)
      clear ht hb hb3
      generalize hI : idx e R = I at *
      have HI : Hid (idx e R = I) := hI
      clear hI
      go_wp2
      go_roundw
      case rel =>
        refine ⟨k + 1, by omega, by go_num, by rw [HR.out]; go_num, ⟨_, ht3.setB (s.size - 1 - k) s[I], fun j hj => ?_⟩, hbb.setCell hGw _⟩
        by_cases ej : j = k
        · subst ej; rw [upd_at, HRD.out, HI.out]; exact HG.out
        · rw [upd_ne _ _ _ (by omega)]; exact HT.out j (by omega)
      case measure => simp [intOf]; omega
    · have hkn : k = s.size := by omega
      subst hkn
      have hbl : Hid ((backText (tx s) e).length = s.size) := by show (backText (tx s) e).length = _; rw [backText_length, HL.out]
      have hcv : ∀ cap, (convert 75 9 (.slice (some ⟨G, 0, none⟩) s.size cap)).run Tryz.prog wr = .ok (.string (bs (backText (tx s) e))) wr := by
        intro cap
        rw [← hbl.out] at ht ⊢
        refine conv_row ht (fun j hj => ?_)
        rw [hbl.out] at hj
        have h1 := HT.out (s.size - 1 - j) (by omega)
        rw [show s.size - 1 - (s.size - 1 - j) = j from by omega] at h1
        have h2 := backText_get (tx s) e (s.size - 1 - j) (by rw [HL.out]; omega) (by rw [hbl.out, HL.out]; omega)
        have h3 : (tx s).length - 1 - (s.size - 1 - j) = j := by rw [HL.out]; omega
        rw [h1, List.getD_eq_getElem?_getD (l := backText (tx s) e), List.getElem?_eq_getElem (show j < (backText (tx s) e).length by rw [hbl.out]; exact hj), Option.getD_some, ← h2]
        congr 1
      generalize rr (bN (tx s)) (tx s).length e s.size = R at *
      go_wp2
      go_ret
      exact ⟨rfl, hb⟩
end Go.Proofs.YtkebgnpifmcmaabGreat

namespace Go.Proofs.YtkebgnpifmcmaabGreat
open Go.RowKit

theorem infoKept : (Tryz.prog.info? 72).map (·.size) = some 4 := by kernel_rfl
/-- Is a row's place kept? -/
def isK (f : Nat → Nat) (rate row : Nat) : Bool := decide (f row % rate = 0)
/-- The places that are kept, in the order of the rows. -/
def keptL (f : Nat → Nat) (rate : Nat) : Nat → List Nat
  | 0 => []
  | k + 1 => keptL f rate k ++ (if isK f rate k then [f k] else [])
theorem keptL_length (f : Nat → Nat) (rate k : Nat) : (keptL f rate k).length ≤ k := by
  induction k with
  | zero => exact Nat.le_refl _
  | succ k ih => simp only [keptL, List.length_append]; split <;> simp <;> omega
/-- Numbers, as cells. -/
def NL (l : List Nat) : List Value := l.map (fun x : Nat => Value.int .i64 (x : Int))
theorem NL_snoc (l : List Nat) (x : Nat) : NL l ++ [.int .i64 (x : Int)] = NL (l ++ [x]) := by simp [NL]

theorem keep1_any (gp gr gs n cap rate row : Nat) (P : Nat → Nat) (w : World) (hrow : row < n) (hr0 : 0 < rate) (hp : P row ≤ 3000) (h1 : Blk w gp 32 #[.slice (some ⟨gs, 0, none⟩) n cap]) (h2 : Blk w gr 3 #[.int .i64 (rate : Int)]) (h3 : Row w gs 3 n (IN P)) :
    Calls Tryz.prog 142 #[.int .i64 (row : Int), .pointer (some ⟨gp, 0, none⟩), .pointer (some ⟨gr, 0, none⟩)] w fun e w' => e = .returned (.bool (isK P rate row)) ∧ Below w.heap.size w w' := by
  have hc1 : w.cell? ⟨gp, 0, none⟩ = some (.slice (some ⟨gs, 0, none⟩) n cap) := h1.cell 0
  have hc2 : w.cell? ⟨gr, 0, none⟩ = some (.int .i64 (rate : Int)) := h2.cell 0
  have hc3 := h3.cell hrow
  rw [IN_at] at hc3
  have hq1 : (row : Int) < (n : Int) := by omega
  have hq2 : (rate : Int) ≠ 0 := by omega
  have hv : Hid (((P row : Int) % (rate : Int) == 0) = isK P rate row) := by
    show ((P row : Int) % (rate : Int) == 0) = isK P rate row
    rw [show (P row : Int) % (rate : Int) = ((P row % rate : Nat) : Int) from by simp]
    unfold isK
    by_cases e : P row % rate = 0
    · simp [e]
    · rw [decide_eq_false e]; simp only [beq_eq_false_iff_ne]; omega
  go_enter Tryz.func142, Tryz.ntmps142
  go_wp2_with fail
  go_quiet (fail)
  go_wp2
  go_ret
  exact ⟨by rw [← hv.out]; rfl, bdrewN (Below.refl _ _) _⟩
theorem enterKeep1 (args : Array Value) (w : World) : (callFunc 142 args).run Tryz.prog w = .ok (.enter 142 args) w := Go.MuLone.run_callFunc_enter (P := Tryz.prog) Tryz.func142 (by kernel_rfl) rfl args w

theorem own_base {w : World} {b b' z n : Nat} {e : TypeId} {v : Value} {xs : List Value} (h : w.ownsRow b e z v n xs) (hb : b' ≤ b) : w.ownsRow b' e z v n xs := by
  refine ⟨h.1, ?_⟩
  rcases h.2 with hn | ⟨g, cap, cur, rfl, hbs, rest⟩
  · exact .inl hn
  · exact .inr ⟨g, cap, cur, rfl, Nat.le_trans hb hbs, rest⟩
theorem BR.keepAll {w w' : World} {gw ga n : Nat} {f : Nat → Bool} (h : BR w (.int .i64 (n : Int)) (.slice (some ⟨gw, 0, none⟩) (n / 64 + 1) (n / 64 + 1)) (.slice (some ⟨ga, 0, none⟩) (n / 64 + 1) (n / 64 + 1)) n f) (h1 : w'.heap[gw]? = w.heap[gw]?) (h2 : w'.heap[ga]? = w.heap[ga]?) : BR w' (.int .i64 (n : Int)) (.slice (some ⟨gw, 0, none⟩) (n / 64 + 1) (n / 64 + 1)) (.slice (some ⟨ga, 0, none⟩) (n / 64 + 1) (n / 64 + 1)) n f := by
  obtain ⟨gw', ga', W, e1, e2, e3, r4, r5, r6⟩ := h
  obtain rfl : gw = gw' := by simpa using e2
  obtain rfl : ga = ga' := by simpa using e3
  exact ⟨gw, ga, W, rfl, rfl, rfl, r4.block h1, r5, r6.block h2⟩
theorem own_ne {w : World} {base z n g : Nat} {e : TypeId} {v : Value} {xs : List Value} (h : w.ownsRow base e z v n xs) (hg : g < base) : some g ≠ v.ownBlock := by
  intro x
  rcases h.2 with ⟨rfl, _⟩ | ⟨g', cap, cur, rfl, hbs, _⟩
  · cases x
  · simp only [Value.ownBlock, Option.some.injEq] at x
    omega
theorem inv_step {R P : Nat → Nat} {n p : Nat} (hinj : ∀ i j, i < n → j < n → R i = R j → i = j) (hp : p < n) (h : ∀ q, q < p → P (R q) = q) : ∀ q, q < p + 1 → upd P (R p) p (R q) = q := by
  intro q hq
  by_cases e : q = p
  · subst e; rw [upd_at]
  · rw [upd_ne _ _ _ (fun h2 => e (hinj _ _ (by omega) hp h2))]; exact h q (by omega)

set_option maxRecDepth 10000 in
set_option maxHeartbeats 1000000 in
theorem keep_any (gi n cap rate : Nat) (R f : Nat → Nat) (w : World) (hn : n ≤ 2001) (hr0 : 0 < rate) (hR : ∀ p, p < n → R p < n) (hinj : ∀ i j, i < n → j < n → R i = R j → i = j) (hfR : ∀ p, p < n → f (R p) = p) (hf : ∀ r, r < n → f r < n ∧ R (f r) = r) (hrow : Row w gi 3 n (IN R)) :
    Calls Tryz.prog 113 #[.slice (some ⟨gi, 0, none⟩) n cap, .int .i64 (rate : Int)] w fun e w' => ∃ a b c pl, e = .returned (.agg #[a, b, c, pl]) ∧ BR w' a b c n (isK f rate) ∧ w'.ownsRow w.heap.size 3 1 pl (keptL f rate n).length (NL (keptL f rate n)) ∧ Below w.heap.size w w' := by
  obtain ⟨i0, hi, hz0, hz1, hz2⟩ := info_parts Tryz.info3
  have HRl : Hid _ := hR
  have HI : Hid _ := hinj
  have HFR : Hid _ := hfR
  have HF : Hid _ := hf
  clear hR hinj hfR hf
  have hmf : ∀ (fn : Fn) (first cap : Array Value) (w : World), (Instr.makeFunc fn first cap).run Tryz.prog w = .ok (.func fn first cap) w := fun _ _ _ _ => rfl
  have hgi := hrow.lt
  go_enter Tryz.func113, Tryz.ntmps113
  go_wp2_with (at_make; refine wpList_make_full _ rfl _ _ 32 rfl 0 3 i0 (.int .i64 0) 1 Tryz.underlying32 hi hz0 hz1 .i64 .i64 _ _ n rfl rfl (by omega) (by omega) (by rw [hz2]; omega) (by unfold maxLen; omega) (Nat.zero_le _) ?_; intro w2 hown hgr)
  have hrP0 := Row.made hown
  obtain ⟨G, hG⟩ : ∃ G, G = w.heap.size := ⟨_, rfl⟩
  have HG : Hid (G = w.heap.size) := hG
  have hW1 : ((w.alloc (.cells #[.int .i64 (rate : Int)] 3)).alloc (.cells #[.int .i64 0, .slice none 0 0, .slice none 0 0, .slice none 0 0] 72)).heap.size = G + 1 + 1 := by rw [hG]; simp
  rw [hW1] at hrP0
  have kA0 := (Blk.new w 3 #[.int .i64 (rate : Int)]).alloc (.cells #[.int .i64 0, .slice none 0 0, .slice none 0 0, .slice none 0 0] 72)
  have kB0 := Blk.new (w.alloc (.cells #[.int .i64 (rate : Int)] 3)) 72 #[.int .i64 0, .slice none 0 0, .slice none 0 0, .slice none 0 0]
  rw [show (w.alloc (.cells #[.int .i64 (rate : Int)] 3)).heap.size = w.heap.size + 1 from by simp] at kB0
  have hb0 : Below w.heap.size w ((w.alloc (.cells #[.int .i64 (rate : Int)] 3)).alloc (.cells #[.int .i64 0, .slice none 0 0, .slice none 0 0, .slice none 0 0] 72)) := ((Below.refl _ _).alloc (Nat.le_refl _) _).alloc (by simp) _
  have hrow0 := (hrow.alloc (.cells #[.int .i64 (rate : Int)] 3)).alloc (.cells #[.int .i64 0, .slice none 0 0, .slice none 0 0, .slice none 0 0] 72)
  rw [← hG] at kA0 kB0 hb0 hgi ⊢
  clear hrow
  generalize (w.alloc (.cells #[.int .i64 (rate : Int)] 3)).alloc (.cells #[.int .i64 0, .slice none 0 0, .slice none 0 0, .slice none 0 0] 72) = W1 at *
  have kA2 := (kA0.grown hgr (by simp)).alloc (.cells #[.slice (some ⟨G + 1 + 1, 0, none⟩) n n] 32)
  have kB2 := (kB0.grown hgr (by simp)).alloc (.cells #[.slice (some ⟨G + 1 + 1, 0, none⟩) n n] 32)
  have hrow2 := (hrow0.grown hgr (by simp)).alloc (.cells #[.slice (some ⟨G + 1 + 1, 0, none⟩) n n] 32)
  have hrP2 := hrP0.alloc (.cells #[.slice (some ⟨G + 1 + 1, 0, none⟩) n n] 32)
  have kP2 := Blk.new w2 32 #[.slice (some ⟨G + 1 + 1, 0, none⟩) n n]
  have hltP := hrP0.lt
  have hb2 := (hb0.grown hgr (by omega) (fun _ h => by cases h)).alloc (show G ≤ w2.heap.size by omega) (.cells #[.slice (some ⟨G + 1 + 1, 0, none⟩) n n] 32)
  clear hG hown hgr hrP0 kA0 kB0 hrow0 hW1
  obtain ⟨gp, hgp⟩ : ∃ gp, gp = w2.heap.size := ⟨_, rfl⟩
  rw [← hgp] at kP2 hltP ⊢
  clear hgp
  generalize w2.alloc (.cells #[.slice (some ⟨G + 1 + 1, 0, none⟩) n n] 32) = V at *
  go_loopw [17, 6, 7] (fun iv _ _ wr => ∃ p : Nat, p ≤ n ∧ iv = .int .i64 (p : Int) ∧ (∃ P, Row wr (G + 1 + 1) 3 n (IN P) ∧ Hid (∀ q, q < p → P (R q) = q)) ∧ Row wr gi 3 n (IN R) ∧ Blk wr gp 32 #[.slice (some ⟨G + 1 + 1, 0, none⟩) n n] ∧ Blk wr G 3 #[.int .i64 (rate : Int)] ∧ Blk wr (G + 1) 72 #[.int .i64 0, .slice none 0 0, .slice none 0 0, .slice none 0 0] ∧ Below G w wr) (fun iv _ _ _ => n - (intOf iv).toNat)
  case atStart => exact ⟨0, Nat.zero_le _, rfl, ⟨fun _ => 0, hrP2, fun q hq => by omega⟩, hrow2, kP2, kA2, kB2, hb2⟩
  case round =>
    clear hrP2 hrow2 kP2 kA2 kB2 hb2
    obtain ⟨p, hp, rfl, ⟨P, hrP, HP⟩, hrow, kP, kA, kB, hb⟩ := hrel
    have hcP : wr.cell? ⟨gp, 0, none⟩ = some (.slice (some ⟨G + 1 + 1, 0, none⟩) n n) := kP.cell 0
    by_cases hlt : p < n
    · have hc1 := hrow.cell hlt
      rw [IN_at] at hc1
      have hRp := HRl.out p hlt
      have hc2 := hrP.cell hRp
      have hfz := hrP.free (R p)
      have HN : Hid _ := inv_step HI.out hlt HP.out
      go_wp2
      go_roundw
      case rel => exact ⟨p + 1, by omega, by go_num, ⟨_, hrP.setN (R p) p, HN⟩, hrow.setOther (by show gi ≠ G + 1 + 1; omega) _, kP.setOther (by show gp ≠ G + 1 + 1; omega) _, kA.setOther (by show G ≠ G + 1 + 1; omega) _, kB.setOther (by show G + 1 ≠ G + 1 + 1; omega) _, hb.setCell (by show G ≤ G + 1 + 1; omega) _⟩
      case measure => simp [intOf]; omega
    · have hpn : p = n := by omega
      subst hpn
      have hrf : Row wr (G + 1 + 1) 3 p (IN f) := hrP.congr (fun r hr => by
        have h1 := HF.out r hr
        have h2 := HP.out (f r) h1.1
        rw [h1.2] at h2
        simp only [IN, h2])
      clear hrP HP hrow
      have HC : Hid (∀ i, i < p → ∀ w1, Below wr.heap.size wr w1 → Calls Tryz.prog 142 (#[.int .i64 (i : Int)] ++ #[.pointer (some ⟨gp, 0, none⟩), .pointer (some ⟨G, 0, none⟩)]) w1 fun e w' => e = .returned (.bool (isK f rate i)) ∧ Below w1.heap.size w1 w') := fun i hi w1 hb1 =>
        keep1_any gp G (G + 1 + 1) p p rate i f w1 hi hr0 (by have := (HF.out i hi).1; omega) (kP.below hb1 kP.lt) (kA.below hb1 kA.lt) (hrf.below hb1 hrf.lt)
      go_wp2_with fail
      refine (bitOf_any p 142 #[.pointer (some ⟨gp, 0, none⟩), .pointer (some ⟨G, 0, none⟩)] (isK f rate) wr hn enterKeep1 HC.out).mono ?_
      clear HC
      rintro e w3 ⟨gw, ga, rfl, ⟨W, hrw, hbits⟩, hra, hgw, hga, hb3⟩
      have hbr3 : BR w3 _ _ _ p (isK f rate) := ⟨gw, ga, W, rfl, rfl, rfl, hrw, hbits, hra⟩
      have hsz3 := hb3.size
      have hGr : G ≤ wr.heap.size := Nat.le_of_lt kA.lt
      have kP3 := kP.below hb3 kP.lt
      have kA3 := kA.below hb3 kA.lt
      have kB3 := kB.below hb3 kB.lt
      have hgw1 : G + 1 < gw := Nat.lt_of_lt_of_le kB.lt hgw
      have hga1 : G + 1 < ga := Nat.lt_of_lt_of_le kB.lt hga
      have hrf3 := hrf.below hb3 hrf.lt
      have hb30 := hb.trans (hb3.mono hGr)
      clear hrw hbits hra kP kA kB hrf hb hb3 hcP
      have m1 := kP3.alloc (.cells #[.int .i64 (p : Int), .slice (some ⟨gw, 0, none⟩) (p / 64 + 1) (p / 64 + 1), .slice (some ⟨ga, 0, none⟩) (p / 64 + 1) (p / 64 + 1), .slice none 0 0] 72)
      have m2 := kA3.alloc (.cells #[.int .i64 (p : Int), .slice (some ⟨gw, 0, none⟩) (p / 64 + 1) (p / 64 + 1), .slice (some ⟨ga, 0, none⟩) (p / 64 + 1) (p / 64 + 1), .slice none 0 0] 72)
      have m3 := kB3.alloc (.cells #[.int .i64 (p : Int), .slice (some ⟨gw, 0, none⟩) (p / 64 + 1) (p / 64 + 1), .slice (some ⟨ga, 0, none⟩) (p / 64 + 1) (p / 64 + 1), .slice none 0 0] 72)
      have m4 := hrf3.alloc (.cells #[.int .i64 (p : Int), .slice (some ⟨gw, 0, none⟩) (p / 64 + 1) (p / 64 + 1), .slice (some ⟨ga, 0, none⟩) (p / 64 + 1) (p / 64 + 1), .slice none 0 0] 72)
      have m5 := hbr3.below ((Below.refl _ _).alloc (Nat.le_refl _) (.cells #[.int .i64 (p : Int), .slice (some ⟨gw, 0, none⟩) (p / 64 + 1) (p / 64 + 1), .slice (some ⟨ga, 0, none⟩) (p / 64 + 1) (p / 64 + 1), .slice none 0 0] 72))
      have m6 := Blk.new w3 72 #[.int .i64 (p : Int), .slice (some ⟨gw, 0, none⟩) (p / 64 + 1) (p / 64 + 1), .slice (some ⟨ga, 0, none⟩) (p / 64 + 1) (p / 64 + 1), .slice none 0 0]
      have m7 := hb30.alloc (show G ≤ w3.heap.size by omega) (.cells #[.int .i64 (p : Int), .slice (some ⟨gw, 0, none⟩) (p / 64 + 1) (p / 64 + 1), .slice (some ⟨ga, 0, none⟩) (p / 64 + 1) (p / 64 + 1), .slice none 0 0] 72)
      have hcP3 : ∀ o, (w3.alloc o).cell? ⟨gp, 0, none⟩ = some (.slice (some ⟨G + 1 + 1, 0, none⟩) p p) := fun o => (kP3.alloc o).cell 0
      have hl1 := kP3.lt
      have hl2 := kB3.lt
      have hl3 := hrf3.lt
      have hl4 : gw < w3.heap.size := by obtain ⟨_, _, _, _, e1, _, r1, _⟩ := id hbr3; simp at e1; rw [e1]; exact r1.lt
      have hl5 : ga < w3.heap.size := by obtain ⟨_, _, _, _, _, e1, _, _, r1⟩ := id hbr3; simp at e1; rw [e1]; exact r1.lt
      go_wp2_with fail
      obtain ⟨gk, hgk⟩ : ∃ gk, gk = w3.heap.size := ⟨_, rfl⟩
      have hs7 : (w3.alloc (.cells #[.int .i64 (p : Int), .slice (some ⟨gw, 0, none⟩) (p / 64 + 1) (p / 64 + 1), .slice (some ⟨ga, 0, none⟩) (p / 64 + 1) (p / 64 + 1), .slice none 0 0] 72)).heap.size = gk + 1 := by rw [hgk]; simp
      rw [← hgk] at m6 hl1 hl2 hl3 hl4 hl5 ⊢
      clear hgk hcP3 kP3 kA3 kB3 hrf3 hbr3 hb30 hsz3
      generalize w3.alloc (.cells #[.int .i64 (p : Int), .slice (some ⟨gw, 0, none⟩) (p / 64 + 1) (p / 64 + 1), .slice (some ⟨ga, 0, none⟩) (p / 64 + 1) (p / 64 + 1), .slice none 0 0] 72) = V3 at *
      go_loopw [35, 10, 11] (fun iv _ _ wr => ∃ k : Nat, k ≤ p ∧ iv = .int .i64 (k : Int) ∧ (∃ pl, Blk wr gk 72 #[.int .i64 (p : Int), .slice (some ⟨gw, 0, none⟩) (p / 64 + 1) (p / 64 + 1), .slice (some ⟨ga, 0, none⟩) (p / 64 + 1) (p / 64 + 1), pl] ∧ wr.ownsRow (gk + 1) 3 1 pl (keptL f rate k).length (NL (keptL f rate k))) ∧ gk < wr.heap.size ∧ Row wr (G + 1 + 1) 3 p (IN f) ∧ Blk wr gp 32 #[.slice (some ⟨G + 1 + 1, 0, none⟩) p p] ∧ Blk wr G 3 #[.int .i64 (rate : Int)] ∧ Blk wr (G + 1) 72 #[.int .i64 0, .slice none 0 0, .slice none 0 0, .slice none 0 0] ∧ BR wr (.int .i64 (p : Int)) (.slice (some ⟨gw, 0, none⟩) (p / 64 + 1) (p / 64 + 1)) (.slice (some ⟨ga, 0, none⟩) (p / 64 + 1) (p / 64 + 1)) p (isK f rate) ∧ Below G w wr) (fun iv _ _ _ => p - (intOf iv).toNat)
      case atStart => exact ⟨0, Nat.zero_le _, rfl, ⟨_, m6, World.ownsRow_nil _ _ _ _⟩, by omega, m4, m1, m2, m3, m5, m7⟩
      case round =>
        clear m1 m2 m3 m4 m5 m6 m7 hs7
        obtain ⟨k, hk, rfl, ⟨pl, kK, hown⟩, hgk, hrf, kP, kA, kB, hbr, hb⟩ := hrel
        by_cases hlt2 : k < p
        · have hc1 := hrf.cell hlt2
          rw [IN_at] at hc1
          have hfk := (HF.out k hlt2).1
          go_wp2_with fail
          refine (keep1_any gp G (G + 1 + 1) p p rate k f wr hlt2 hr0 (by omega) kP kA hrf).mono ?_
          rintro e w4 ⟨rfl, hb4⟩
          have n1 := kK.below hb4 kK.lt
          have n2 := own_below3 hown hb4
          have n3 := hrf.below hb4 hrf.lt
          have n4 := kP.below hb4 kP.lt
          have n5 := kA.below hb4 kA.lt
          have n6 := kB.below hb4 kB.lt
          have n7 := hbr.below hb4
          have n8 := hb.trans (hb4.mono (Nat.le_of_lt kA.lt))
          have n9 : gk < w4.heap.size := Nat.lt_of_lt_of_le hgk hb4.size
          have hkl := keptL_length f rate k
          clear kK hown hrf kP kA kB hbr hb hgk hb4
          by_cases hK : isK f rate k = true
          · have HN : Hid (keptL f rate (k + 1) = keptL f rate k ++ [f k]) := by
              show keptL f rate (k + 1) = _
              simp only [keptL, hK, if_true]
            rw [hK]
            have hcK : w4.cell? ⟨gk, 3, none⟩ = some pl := n1.cell 3
            have hcKo : ∀ o, (w4.alloc o).cell? ⟨gk, 3, none⟩ = some pl := fun o => (n1.alloc o).cell 3
            go_wp2_with (at_builtin; refine wpList_append_own _ rfl (.tmp 44) (.tmp 46) 32 rfl (gk + 1) 3 i0 (.int .i64 0) 1 8 Tryz.underlying32 hi hz0 hz1 hz2 rfl (by decide) pl (keptL f rate k).length _ rfl (n2.alloc _) ⟨w4.heap.size, 0, none⟩ 1 1 [.int .i64 (f k : Int)] rfl rfl (cell_one_new _ _ _) (by simp; rfl) (by unfold maxLen; omega) (by omega) (by simp; omega) ?_; intro v' w5 hown5 hgr5 _; obtain ⟨g', cap', rfl⟩ := own_form hown5 (by omega); have o1 := (n1.alloc (.cells #[.int .i64 (f k : Int)] 3)).grown hgr5 (own_ne n2 (by omega)); have hc5 : w5.cell? ⟨gk, 3, none⟩ = some pl := o1.cell 3; have hf5 := o1.free 3)
            have o3 := (n3.alloc (.cells #[.int .i64 (f k : Int)] 3)).grown hgr5 (own_ne n2 (by omega))
            have o4 := (n4.alloc (.cells #[.int .i64 (f k : Int)] 3)).grown hgr5 (own_ne n2 (by omega))
            have o5 := (n5.alloc (.cells #[.int .i64 (f k : Int)] 3)).grown hgr5 (own_ne n2 (by omega))
            have o6 := (n6.alloc (.cells #[.int .i64 (f k : Int)] 3)).grown hgr5 (own_ne n2 (by omega))
            have o7 := (n7.below ((Below.refl _ _).alloc (Nat.le_refl _) (.cells #[.int .i64 (f k : Int)] 3))).keepAll (hgr5.block gw (by simp; omega) (own_ne n2 (by omega))) (hgr5.block ga (by simp; omega) (own_ne n2 (by omega)))
            have o8 : Below G w w5 := (n8.alloc (show G ≤ w4.heap.size by omega) _).grown hgr5 (by simp; omega) (fun g hg => Nat.le_trans (by omega) ((n2.alloc (.cells #[.int .i64 (f k : Int)] 3)).lt g hg).1)
            rw [NL_snoc] at hown5
            have hsz5 := hgr5.size
            simp only [World.size_alloc] at hsz5
            go_roundw
            case rel =>
              refine ⟨k + 1, by omega, by go_num, ⟨_, o1.set 3 _, ?_⟩, ?_, o3.setOther (by show G + 1 + 1 ≠ gk; omega) _, o4.setOther (by show gp ≠ gk; omega) _, o5.setOther (by show G ≠ gk; omega) _, o6.setOther (by show G + 1 ≠ gk; omega) _, o7.keepAll (Below.heap_setCell _ _ _ _ (by show gw ≠ gk; omega)) (Below.heap_setCell _ _ _ _ (by show ga ≠ gk; omega)), o8.setCell (by show G ≤ gk; omega) _⟩
              · rw [HN.out, List.length_append]
                exact own_setOther hown5 _ _ (own_ne hown5 (by show gk < gk + 1; omega))
              · simp; omega
            case measure => simp [intOf]; omega
          · have hK' : isK f rate k = false := by simpa using hK
            have HN : Hid (keptL f rate (k + 1) = keptL f rate k) := by
              show keptL f rate (k + 1) = _
              simp [keptL, hK']
            rw [hK']
            go_wp2
            go_roundw
            case rel => exact ⟨k + 1, by omega, by go_num, ⟨pl, n1, by rw [HN.out]; exact n2⟩, n9, n3, n4, n5, n6, n7, n8⟩
            case measure => simp [intOf]; omega
        · have hkp : k = p := by omega
          subst hkp
          have hd0 : wr.cell? ⟨gk, 0, none⟩ = some (.int .i64 (k : Int)) := kK.cell 0
          have hd1 : wr.cell? ⟨gk, 1, none⟩ = some (.slice (some ⟨gw, 0, none⟩) (k / 64 + 1) (k / 64 + 1)) := kK.cell 1
          have hd2 : wr.cell? ⟨gk, 2, none⟩ = some (.slice (some ⟨ga, 0, none⟩) (k / 64 + 1) (k / 64 + 1)) := kK.cell 2
          have hd3 : wr.cell? ⟨gk, 3, none⟩ = some pl := kK.cell 3
          have he0 : wr.cell? ⟨G + 1, 0, none⟩ = some (.int .i64 0) := kB.cell 0
          have he1 : wr.cell? ⟨G + 1, 1, none⟩ = some (.slice none 0 0) := kB.cell 1
          have he2 : wr.cell? ⟨G + 1, 2, none⟩ = some (.slice none 0 0) := kB.cell 2
          have he3 : wr.cell? ⟨G + 1, 3, none⟩ = some (.slice none 0 0) := kB.cell 3
          have hf0 := kB.free 0
          have hf1 := kB.free 1
          have hf2 := kB.free 2
          have hf3 := kB.free 3
          have hpv : ∃ ao m cp, pl = .slice ao m cp := by
            rcases hown.2 with ⟨rfl, _⟩ | ⟨g', cp, cur, rfl, _⟩
            · exact ⟨_, _, _, rfl⟩
            · exact ⟨_, _, _, rfl⟩
          obtain ⟨ao, m, cp, rfl⟩ := hpv
          go_wp2
          have hne : some (G + 1) ≠ (Value.slice ao m cp).ownBlock := own_ne hown (by omega)
          have q1 := fun (W : World) (j : Nat) (u : Value) => Below.heap_setCell W ⟨G + 1, j, none⟩ u gw (by show gw ≠ G + 1; omega)
          have q2 := fun (W : World) (j : Nat) (u : Value) => Below.heap_setCell W ⟨G + 1, j, none⟩ u ga (by show ga ≠ G + 1; omega)
          have hownG := own_base (own_setOther (own_setOther (own_setOther (own_setOther hown ⟨G + 1, 0, none⟩ (.int .i64 (k : Int)) hne) ⟨G + 1, 1, none⟩ (.slice (some ⟨gw, 0, none⟩) (k / 64 + 1) (k / 64 + 1)) hne) ⟨G + 1, 2, none⟩ (.slice (some ⟨ga, 0, none⟩) (k / 64 + 1) (k / 64 + 1)) hne) ⟨G + 1, 3, none⟩ (.slice ao m cp) hne) (show G ≤ gk + 1 by omega)
          rw [HG.out] at hownG
          refine bodyPost_ret (v := .agg #[.int .i64 (k : Int), .slice (some ⟨gw, 0, none⟩) (k / 64 + 1) (k / 64 + 1), .slice (some ⟨ga, 0, none⟩) (k / 64 + 1) (k / 64 + 1), .slice ao m cp]) (results_cell_row (P := Tryz.prog) rfl _ _ (G + 1) 72 _ (0, 0) _ rfl ((((kB.set 0 _).set 1 _).set 2 _).set 3 _) Tryz.underlying72 rfl infoKept) rfl ⟨_, _, _, _, rfl, ?_, ?_, ?_⟩
          · exact (((hbr.keepAll (q1 _ 0 _) (q2 _ 0 _)).keepAll (q1 _ 1 _) (q2 _ 1 _)).keepAll (q1 _ 2 _) (q2 _ 2 _)).keepAll (q1 _ 3 _) (q2 _ 3 _)
          · rw [HG.out]; exact hownG
          · rw [← HG.out]; exact (((hb.setCell (by show G ≤ G + 1; omega) _).setCell (by show G ≤ G + 1; omega) _).setCell (by show G ≤ G + 1; omega) _).setCell (by show G ≤ G + 1; omega) _
end Go.Proofs.YtkebgnpifmcmaabGreat

namespace Go.Proofs.YtkebgnpifmcmaabGreat
open Go.RowKit

theorem infoSide : (Tryz.prog.info? 67).map (·.size) = some 2 := by kernel_rfl

theorem Ctr.form {w : World} {v : Value} {s : ByteArray} (h : Ctr w v s) : ∃ t a, v = .iface t (.pointer (some a)) := by
  rcases h with ⟨_, g, rfl, _⟩ | ⟨_, g, rfl, _⟩
  · exact ⟨_, _, rfl⟩
  · exact ⟨_, _, rfl⟩
/-- A counter stays, where a block of another kind is written into. -/
theorem BR.other {w w' : World} {a b c : Value} {n : Nat} {f : Nat → Bool} (h : BR w a b c n f) {B : Nat} (hb : ∀ g, g < B → w'.heap[g]? = w.heap[g]?) (hlt : w.heap.size ≤ B) : BR w' a b c n f := by
  obtain ⟨gw, ga, W, r1, r2, r3, r4, r5, r6⟩ := h
  exact ⟨gw, ga, W, r1, r2, r3, r4.block (hb _ (Nat.lt_of_lt_of_le r4.lt hlt)), r5, r6.block (hb _ (Nat.lt_of_lt_of_le r6.lt hlt))⟩
theorem enterRanksOf (args : Array Value) (w : World) : (callFunc 141 args).run Tryz.prog w = .ok (.enter 141 args) w := Go.MuLone.run_callFunc_enter (P := Tryz.prog) Tryz.func141 (by kernel_rfl) rfl args w
theorem enterSideOf (args : Array Value) (w : World) : (callFunc 112 args).run Tryz.prog w = .ok (.enter 112 args) w := Go.MuLone.run_callFunc_enter (P := Tryz.prog) Tryz.func112 (by kernel_rfl) rfl args w
theorem enterKeep (args : Array Value) (w : World) : (callFunc 113 args).run Tryz.prog w = .ok (.enter 113 args) w := Go.MuLone.run_callFunc_enter (P := Tryz.prog) Tryz.func113 (by kernel_rfl) rfl args w

/-- A counter lives in blocks of its own kinds. -/
theorem Ctr.setBlk {w : World} {v : Value} {s : ByteArray} (h : Ctr w v s) {g : Nat} {T : TypeId} {cs : Array Value} (hk : Blk w g T cs) (h1 : T ≠ 92) (h2 : T ≠ 3) (h3 : T ≠ 70) (h4 : T ≠ 206) (h5 : T ≠ 196) (h6 : T ≠ 199) (j : Nat) (u : Value) : Ctr (w.setCell ⟨g, j, none⟩ u) v s := by
  have hne : ∀ {g' : Nat} {T' : TypeId} {cs' : Array Value}, Blk w g' T' cs' → T ≠ T' → g' ≠ g := fun {g'} {T'} {cs'} hB hT e => by
    subst e
    unfold Blk at hB hk
    rw [hB] at hk
    simp only [Option.some.injEq, Obj.cells.injEq] at hk
    exact hT hk.2.1.symm
  rcases h with ⟨q1, gc, rfl, base, vv, xs, k1, k2, k3⟩ | ⟨q1, gc, rfl, base, vv, k1, k2⟩
  · refine .inl ⟨q1, gc, rfl, base, vv, xs, k1.setOther (hne k1 h5) _, own_setOther k2 _ _ (blk_ne_own hk k2 h3), fun i hi => ?_⟩
    obtain ⟨a, b, c, r1, r2, r3, r4⟩ := k3 i hi
    exact ⟨a, b, c, r1, r2, r3, r4.setBlk hk h1 h2 _ _⟩
  · exact .inr ⟨q1, gc, rfl, base, vv, k1.setOther (hne k1 h6) _, own_setOther k2 _ _ (blk_ne_own hk k2 h4)⟩

set_option maxRecDepth 10000 in
set_option maxHeartbeats 1000000 in
theorem sideOf_any (s : ByteArray) (e : Nat) (w : World) (hn : s.size ≤ 2000) : Calls Tryz.prog 112 #[.agg #[.string s, .int .i64 (e : Int)]] w fun en w' => ∃ v, en = .returned (.agg #[v, .int .i64 (e : Int)]) ∧ Ctr w' v s ∧ Below w.heap.size w w' := by
  have k0 := (Blk.new w 118 #[.string s, .int .i64 (e : Int)]).alloc (.cells #[.nilIface, .int .i64 0] 67)
  have k1 := Blk.new (w.alloc (.cells #[.string s, .int .i64 (e : Int)] 118)) 67 #[.nilIface, .int .i64 0]
  rw [show (w.alloc (.cells #[.string s, .int .i64 (e : Int)] 118)).heap.size = w.heap.size + 1 from by simp] at k1
  have hb0 : Below w.heap.size w ((w.alloc (.cells #[.string s, .int .i64 (e : Int)] 118)).alloc (.cells #[.nilIface, .int .i64 0] 67)) := ((Below.refl _ _).alloc (Nat.le_refl _) _).alloc (by simp) _
  go_enter Tryz.func112, Tryz.ntmps112
  go_upto_region 1 with fail
  generalize (w.alloc (.cells #[.string s, .int .i64 (e : Int)] 118)).alloc (.cells #[.nilIface, .int .i64 0] 67) = W0 at *
  obtain ⟨G, hG⟩ : ∃ G, G = w.heap.size := ⟨_, rfl⟩
  have HG : Hid (G = w.heap.size) := hG
  rw [← hG] at k0 k1 hb0 ⊢
  clear hG
  have hc0 : W0.cell? ⟨G, 0, none⟩ = some (.string s) := k0.cell 0
  have hc1 : W0.cell? ⟨G, 1, none⟩ = some (.int .i64 (e : Int)) := k0.cell 1
  have k0' : Blk W0.drew G 118 #[.string s, .int .i64 (e : Int)] := k0
  have k1' : Blk W0.drew (G + 1) 67 #[.nilIface, .int .i64 0] := k1
  have hl0 := k0.lt
  have hl1 := k1.lt
  have hbd : Below G w W0.drew := hb0.drew
  go_region_law (first
    | (refine step_calls (args := #[.string s]) rfl rfl enterRanksOf (by simp [Act.eval]) (ranksOf_any s W0.drew hn) ?_; rintro en w2 ⟨v, rfl, hctr, hb2⟩; obtain ⟨t, x, rfl⟩ := hctr.form; refine ⟨_, rfl, ?_⟩; have hd1 : w2.cell? ⟨G, 1, none⟩ = some (.int .i64 (e : Int)) := (k0'.below hb2 hl0).cell 1; have hk2 := k1'.below hb2 hl1; have hd2 : w2.cell? ⟨G + 1, 0, none⟩ = some .nilIface := hk2.cell 0; have hd3 : w2.cell? ⟨G + 1, 1, none⟩ = some (.int .i64 0) := hk2.cell 1; have hf2 := hk2.free 0; have hf3 := hk2.free 1))
  all_goals go_wp2
  all_goals exact bodyPost_ret (v := .agg #[.iface t (.pointer (some x)), .int .i64 (e : Int)]) (results_cell_row (P := Tryz.prog) rfl _ _ (G + 1) 67 _ (0, 0) _ rfl ((hk2.set 0 _).set 1 _) Tryz.underlying67 rfl infoSide) rfl ⟨_, rfl, (hctr.setBlk hk2 (by decide) (by decide) (by decide) (by decide) (by decide) (by decide) _ _).setBlk (hk2.set 0 _) (by decide) (by decide) (by decide) (by decide) (by decide) (by decide) _ _, by rw [← HG.out]; exact ((hbd.trans (hb2.mono (Nat.le_of_lt hl0))).setCell (by show G ≤ G + 1; omega) _).setCell (by show G ≤ G + 1; omega) _⟩

/-- There is an order of the suffixes. -/
theorem sa_exists (s : ByteArray) (w : World) (hn : s.size ≤ 2000) : ∃ f, IsSA (tx s) f := by
  obtain ⟨_, _, _, ⟨f, _, h⟩, _⟩ := sort_any s w hn []
  exact ⟨f, h⟩

/-- The rows on the way back are those of the places. -/
theorem wayRow_sa {L : List UInt8} {e : Nat} (he : e ≤ L.length) (hok : okBack L e) {f : Nat → Nat} (F : IsSA (backText L e) f) :
    (∀ p, p < L.length + 1 → wayRow L e p < L.length + 1) ∧ (∀ i j, i < L.length + 1 → j < L.length + 1 → wayRow L e i = wayRow L e j → i = j) ∧ (∀ p, p < L.length + 1 → f (wayRow L e p) = p) ∧ ∀ r, r < L.length + 1 → f r < L.length + 1 ∧ wayRow L e (f r) = r := by
  have hbl := backText_length L e
  obtain ⟨hp, hq⟩ := back_transform he hok F
  have R := rr_sa F
  rw [hbl, hp, hq] at R
  have h1 : ∀ p, p < L.length + 1 → wayRow L e p < L.length + 1 ∧ f (wayRow L e p) = p := fun p hp => by
    have := R (L.length - p) (by omega)
    unfold wayRow
    exact ⟨by omega, by rw [this.2]; omega⟩
  refine ⟨fun p hp => (h1 p hp).1, fun i j hi hj h => by rw [← (h1 i hi).2, h, (h1 j hj).2], fun p hp => (h1 p hp).2, fun r hr => ?_⟩
  have hle := F.le r (by omega)
  rw [hbl] at hle
  refine ⟨by omega, F.inj (by have := (h1 (f r) (by omega)).1; omega) (by omega) ?_⟩
  exact (h1 (f r) (by omega)).2

/-- An index, in memory: of two transforms. -/
def IndexQ (w : World) (g : Nat) (s1 : ByteArray) (e1 : Nat) (s2 : ByteArray) (e2 rate : Nat) (f : Nat → Nat) : Prop :=
  ∃ c1 c2 m0 m1 m2 pl base, Blk w g 74 #[c1, .int .i64 (e1 : Int), c2, .int .i64 (e2 : Int), .int .i64 (rate : Int), m0, m1, m2, pl] ∧ Ctr w c1 s1 ∧ Ctr w c2 s2 ∧ BR w m0 m1 m2 (s1.size + 1) (isK f rate) ∧ w.ownsRow base 3 1 pl (keptL f rate (s1.size + 1)).length (NL (keptL f rate (s1.size + 1)))

set_option maxRecDepth 10000 in
set_option maxHeartbeats 1000000 in
theorem join_no1 (s1 s2 : ByteArray) (e1 e2 rate : Nat) (w : World) (hn : s1.size ≤ 2000) (h : s1.size < e1 ∨ (e1 ≤ s1.size ∧ ¬ okBack (tx s1) e1)) :
    Calls Tryz.prog 80 #[.agg #[.string s1, .int .i64 (e1 : Int)], .agg #[.string s2, .int .i64 (e2 : Int)], .int .i64 (rate : Int)] w fun en w' => en = .returned (.tuple #[.pointer none, .bool false]) ∧ Below w.heap.size w w' := by
  have hb0 : Below w.heap.size w ((w.alloc (.cells #[.string s1, .int .i64 (e1 : Int)] 118)).alloc (.cells #[.string s2, .int .i64 (e2 : Int)] 118)) := ((Below.refl _ _).alloc (Nat.le_refl _) _).alloc (by simp) _
  have H : Hid (∀ w, Calls Tryz.prog 69 #[.string s1, .int .i64 (e1 : Int)] w fun en w' => en = .returned (.tuple #[.string ByteArray.empty, .bool false]) ∧ Below w.heap.size w w') := fun w => by
    rcases h with h | ⟨h, h'⟩
    · exact (restoreIn_out s1 e1 w hn (.inr (by omega))).mono (fun en w' h => ⟨h.1, h.2 ▸ Below.refl _ _⟩)
    · exact (restoreIn_any s1 e1 w hn h).mono (fun en w' hh => by
        rcases hh.1 with hx | hx
        · exact absurd hx.1 h'
        · exact ⟨hx.2, hh.2⟩)
  clear h
  go_enter Tryz.func80, Tryz.ntmps80
  go_wp2_with fail
  refine (H.out _).mono ?_
  clear H
  rintro en w1 ⟨rfl, hb1⟩
  go_wp2
  go_ret2
  exact ⟨rfl, hb0.trans (hb1.mono (by simp; omega))⟩
end Go.Proofs.YtkebgnpifmcmaabGreat

namespace Go.Proofs.YtkebgnpifmcmaabGreat
open Go.RowKit

theorem toList_inj {a b : ByteArray} (h : a.toList = b.toList) : a = b := by
  rw [Lib.toList_data, Lib.toList_data] at h
  exact ByteArray.ext (Array.toList_inj.1 h)

set_option maxRecDepth 10000 in
set_option maxHeartbeats 1000000 in
theorem join_no2 (s1 s2 : ByteArray) (e1 e2 rate : Nat) (w : World) (hn : s1.size ≤ 2000) (hn2 : s2.size ≤ 2000) (he1 : e1 ≤ s1.size) (h1 : okBack (tx s1) e1) (h : s2.size < e2 ∨ (e2 ≤ s2.size ∧ ¬ okBack (tx s2) e2)) :
    Calls Tryz.prog 80 #[.agg #[.string s1, .int .i64 (e1 : Int)], .agg #[.string s2, .int .i64 (e2 : Int)], .int .i64 (rate : Int)] w fun en w' => en = .returned (.tuple #[.pointer none, .bool false]) ∧ Below w.heap.size w w' := by
  have hb0 : Below w.heap.size w ((w.alloc (.cells #[.string s1, .int .i64 (e1 : Int)] 118)).alloc (.cells #[.string s2, .int .i64 (e2 : Int)] 118)) := ((Below.refl _ _).alloc (Nat.le_refl _) _).alloc (by simp) _
  have k2 := Blk.new (w.alloc (.cells #[.string s1, .int .i64 (e1 : Int)] 118)) 118 #[.string s2, .int .i64 (e2 : Int)]
  rw [show (w.alloc (.cells #[.string s1, .int .i64 (e1 : Int)] 118)).heap.size = w.heap.size + 1 from by simp] at k2
  have HA : Hid (∀ w, Calls Tryz.prog 69 #[.string s1, .int .i64 (e1 : Int)] w fun en w' => en = .returned (.tuple #[.string (bs (backText (tx s1) e1)), .bool true]) ∧ Below w.heap.size w w') := fun w =>
    (restoreIn_any s1 e1 w hn he1).mono (fun en w' hh => by
        rcases hh.1 with hx | hx
        · exact ⟨hx.2, hh.2⟩
        · exact absurd h1 hx.1)
  have H : Hid (∀ w, Calls Tryz.prog 69 #[.string s2, .int .i64 (e2 : Int)] w fun en w' => en = .returned (.tuple #[.string ByteArray.empty, .bool false]) ∧ Below w.heap.size w w') := fun w => by
    rcases h with h | ⟨h, h'⟩
    · exact (restoreIn_out s2 e2 w hn2 (.inr (by omega))).mono (fun en w' h => ⟨h.1, h.2 ▸ Below.refl _ _⟩)
    · exact (restoreIn_any s2 e2 w hn2 h).mono (fun en w' hh => by
        rcases hh.1 with hx | hx
        · exact absurd hx.1 h'
        · exact ⟨hx.2, hh.2⟩)
  clear h h1
  go_enter Tryz.func80, Tryz.ntmps80
  go_wp2_with fail
  refine (HA.out _).mono ?_
  clear HA
  rintro en w1 ⟨rfl, hb1⟩
  have k21 := k2.below hb1 (by simp)
  have hc0 : w1.cell? ⟨w.heap.size + 1, 0, none⟩ = some (.string s2) := k21.cell 0
  have hc1 : w1.cell? ⟨w.heap.size + 1, 1, none⟩ = some (.int .i64 (e2 : Int)) := k21.cell 1
  have hb01 := hb0.trans (hb1.mono (by simp; omega))
  clear hb0 hb1 k2
  go_wp2_with fail
  refine (H.out _).mono ?_
  clear H
  rintro en w2 ⟨rfl, hb2⟩
  go_wp2
  go_ret2
  exact ⟨rfl, hb01.trans (hb2.mono hb01.size)⟩

set_option maxRecDepth 10000 in
set_option maxHeartbeats 1000000 in
theorem join_ok (s1 s2 : ByteArray) (e1 e2 rate : Nat) (f : Nat → Nat) (w : World) (hn : s1.size ≤ 2000) (hn2 : s2.size ≤ 2000) (he1 : e1 ≤ s1.size) (he2 : e2 ≤ s2.size) (h1 : okBack (tx s1) e1) (h2 : okBack (tx s2) e2) (hr0 : 0 < rate) (hF : IsSA (backText (tx s1) e1) f) :
    Calls Tryz.prog 80 #[.agg #[.string s1, .int .i64 (e1 : Int)], .agg #[.string s2, .int .i64 (e2 : Int)], .int .i64 (rate : Int)] w fun en w' =>
      ((backText (tx s2) e2 = (backText (tx s1) e1).reverse ∧ ∃ g, en = .returned (.tuple #[.pointer (some ⟨g, 0, none⟩), .bool true]) ∧ IndexQ w' g s1 e1 s2 e2 rate f) ∨
        (backText (tx s2) e2 ≠ (backText (tx s1) e1).reverse ∧ en = .returned (.tuple #[.pointer none, .bool false]))) ∧ Below w.heap.size w w' := by
  have hb0 : Below w.heap.size w ((w.alloc (.cells #[.string s1, .int .i64 (e1 : Int)] 118)).alloc (.cells #[.string s2, .int .i64 (e2 : Int)] 118)) := ((Below.refl _ _).alloc (Nat.le_refl _) _).alloc (by simp) _
  have k1 := (Blk.new w 118 #[.string s1, .int .i64 (e1 : Int)]).alloc (.cells #[.string s2, .int .i64 (e2 : Int)] 118)
  have k2 := Blk.new (w.alloc (.cells #[.string s1, .int .i64 (e1 : Int)] 118)) 118 #[.string s2, .int .i64 (e2 : Int)]
  rw [show (w.alloc (.cells #[.string s1, .int .i64 (e1 : Int)] 118)).heap.size = w.heap.size + 1 from by simp] at k2
  have HA : Hid (∀ w, Calls Tryz.prog 69 #[.string s1, .int .i64 (e1 : Int)] w fun en w' => en = .returned (.tuple #[.string (bs (backText (tx s1) e1)), .bool true]) ∧ Below w.heap.size w w') := fun w =>
    (restoreIn_any s1 e1 w hn he1).mono (fun en w' hh => by
        rcases hh.1 with hx | hx
        · exact ⟨hx.2, hh.2⟩
        · exact absurd h1 hx.1)
  have H : Hid (∀ w, Calls Tryz.prog 69 #[.string s2, .int .i64 (e2 : Int)] w fun en w' => en = .returned (.tuple #[.string (bs (backText (tx s2) e2)), .bool true]) ∧ Below w.heap.size w w') := fun w =>
    (restoreIn_any s2 e2 w hn2 he2).mono (fun en w' hh => by
        rcases hh.1 with hx | hx
        · exact ⟨hx.2, hh.2⟩
        · exact absurd h2 hx.1)
  have HRW : Hid (∀ w, Calls Tryz.prog 102 #[.string s1, .int .i64 (e1 : Int)] w fun en w' => ∃ g cap, en = .returned (.tuple #[.slice (some ⟨g, 0, none⟩) (s1.size + 1) cap, .bool true]) ∧ w.heap.size ≤ g ∧ Row w' g 3 (s1.size + 1) (IN (wayRow (tx s1) e1)) ∧ Below w.heap.size w w') := fun w =>
    (rowsIn_any s1 e1 w hn he1).mono (fun en w' hh => by
        rcases hh.1 with ⟨_, g, cap, q1, q2, q3, q4, q5⟩ | hx
        · exact ⟨g, cap, q1, q4, q5, hh.2⟩
        · exact absurd h1 hx.1)
  have hway := wayRow_sa (by rw [tx_length]; exact he1) h1 hF
  rw [tx_length] at hway
  have HW : Hid _ := hway
  have HV : Hid (revS (bs (backText (tx s1) e1)) = bs (backText (tx s1) e1).reverse) := by show revS (bs (backText (tx s1) e1)) = _; rw [revS, tx_bs]
  have htl : (bs (backText (tx s1) e1)).size ≤ 2000 := by rw [bs_size, backText_length, tx_length]; exact hn
  clear hway h1 h2 hF
  generalize hT1 : bs (backText (tx s1) e1) = T1 at *
  clear hT1
  go_enter Tryz.func80, Tryz.ntmps80
  go_wp2_with fail
  refine (HA.out _).mono ?_
  clear HA
  rintro en w1 ⟨rfl, hb1⟩
  have k21 := k2.below hb1 (by simp)
  have k11 := k1.below hb1 (by simp; omega)
  have hc0 : w1.cell? ⟨w.heap.size + 1, 0, none⟩ = some (.string s2) := k21.cell 0
  have hc1 : w1.cell? ⟨w.heap.size + 1, 1, none⟩ = some (.int .i64 (e2 : Int)) := k21.cell 1
  have hb01 := hb0.trans (hb1.mono (by simp; omega))
  clear hb0 hb1 k2 k1
  go_wp2_with fail
  refine (H.out _).mono ?_
  clear H
  rintro en w2 ⟨rfl, hb2⟩
  have k22 := k21.below hb2 k21.lt
  have k12 := k11.below hb2 k11.lt
  have hb02 := hb01.trans (hb2.mono hb01.size)
  clear hb01 hb2 k21 k11 hc0 hc1
  go_wp2_with fail
  refine (reversed_any T1 w2 htl).mono ?_
  rintro en w3 ⟨rfl, hb3⟩
  rw [HV.out]
  have k23 := k22.below hb3 k22.lt
  have k13 := k12.below hb3 k12.lt
  have hb03 := hb02.trans (hb3.mono hb02.size)
  clear hb02 hb3 k22 k12 HV
  by_cases heq : backText (tx s2) e2 = (backText (tx s1) e1).reverse
  · rw [← heq]
    have HEQ : Hid _ := heq
    clear heq
    generalize bs (backText (tx s2) e2) = T2 at *
    have hc0 : w3.cell? ⟨w.heap.size, 0, none⟩ = some (.string s1) := k13.cell 0
    have hc1 : w3.cell? ⟨w.heap.size, 1, none⟩ = some (.int .i64 (e1 : Int)) := k13.cell 1
    go_wp2_with fail
    refine (HRW.out w3).mono ?_
    clear HRW
    rintro en w4 ⟨gr, cap, rfl, hgr, hrow, hb4⟩
    have k24 := k23.below hb4 k23.lt
    have k14 := k13.below hb4 k13.lt
    have hb04 := hb03.trans (hb4.mono hb03.size)
    clear hb03 hb4 k23 k13 hc0 hc1 hgr
    go_upto_region 8 with fail
    obtain ⟨G, hG⟩ : ∃ G, G = w.heap.size := ⟨_, rfl⟩
    have HG : Hid (G = w.heap.size) := hG
    rw [← hG] at k24 k14 hb04 ⊢
    clear hG
    have k1d : Blk w4.drew G 118 #[.string s1, .int .i64 (e1 : Int)] := k14
    have k2d : Blk w4.drew (G + 1) 118 #[.string s2, .int .i64 (e2 : Int)] := k24
    have hrd : Row w4.drew gr 3 (s1.size + 1) (IN (wayRow (tx s1) e1)) := hrow
    have hbd : Below G w w4.drew := hb04.drew
    have hc10 : w4.cell? ⟨G, 0, none⟩ = some (.string s1) := k14.cell 0
    have hc11 : w4.cell? ⟨G, 1, none⟩ = some (.int .i64 (e1 : Int)) := k14.cell 1
    have hc20 : w4.cell? ⟨G + 1, 0, none⟩ = some (.string s2) := k24.cell 0
    have hc21 : w4.cell? ⟨G + 1, 1, none⟩ = some (.int .i64 (e2 : Int)) := k24.cell 1
    clear k14 k24 hrow hb04
    go_region_law (first
      | (refine step_calls (args := #[.agg #[.string s1, .int .i64 (e1 : Int)]]) rfl rfl enterSideOf (by simp [Act.eval]) (sideOf_any s1 e1 w4.drew hn) ?_; rintro en w5 ⟨c1, rfl, hct1, hb5⟩; obtain ⟨t1, x1, rfl⟩ := hct1.form; refine ⟨_, rfl, ?_⟩; have hd20 : w5.cell? ⟨G + 1, 0, none⟩ = some (.string s2) := (k2d.below hb5 k2d.lt).cell 0; have hd21 : w5.cell? ⟨G + 1, 1, none⟩ = some (.int .i64 (e2 : Int)) := (k2d.below hb5 k2d.lt).cell 1)
      | (refine step_calls (args := #[.agg #[.string s2, .int .i64 (e2 : Int)]]) rfl rfl enterSideOf (by simp [Act.eval]) (sideOf_any s2 e2 w5 hn2) ?_; rintro en w6 ⟨c2, rfl, hct2, hb6⟩; obtain ⟨t2, x2, rfl⟩ := hct2.form; refine ⟨_, rfl, ?_⟩; have hr6 := (hrd.below hb5 hrd.lt).below hb6 (Nat.lt_of_lt_of_le hrd.lt hb5.size))
      | (refine step_calls (args := #[.slice (some ⟨gr, 0, none⟩) (s1.size + 1) cap, .int .i64 (rate : Int)]) rfl rfl enterKeep (by simp [Act.eval]) (keep_any gr (s1.size + 1) cap rate (wayRow (tx s1) e1) f w6 (by omega) hr0 HW.out.1 HW.out.2.1 HW.out.2.2.1 HW.out.2.2.2 hr6) ?_; rintro en w7 ⟨a7, b7, c7, pl, rfl, hbr7, hown7, hb7⟩; refine ⟨_, rfl, ?_⟩))
    all_goals go_wp2
    all_goals
      have hG0 : G ≤ w4.drew.heap.size := Nat.le_of_lt k1d.lt
      have hq5 : Below G w w5 := hbd.trans (hb5.mono hG0)
      have hG5 : G ≤ w5.heap.size := Nat.le_trans hG0 hb5.size
      have hq6 : Below G w w6 := hq5.trans (hb6.mono hG5)
      have hG6 : G ≤ w6.heap.size := Nat.le_trans hG5 hb6.size
      have hq7 : Below G w w7 := hq6.trans (hb7.mono hG6)
      have hG7 : G ≤ w7.heap.size := Nat.le_trans hG6 hb7.size
      have hA := fun o => (Below.refl w7.heap.size w7).alloc (Nat.le_refl _) o
    all_goals go_ret2
    all_goals exact ⟨.inl ⟨HEQ.out, w7.heap.size, rfl, _, _, _, _, _, _, _, Blk.new w7 _ _, ((hct1.below hb6).below hb7).below (hA _), (hct2.below hb7).below (hA _), hbr7.below (hA _), own_below3 hown7 (hA _)⟩, by rw [← HG.out]; exact hq7.alloc hG7 _⟩
  · have hne : ((bs (backText (tx s2) e2)).toList == (bs (backText (tx s1) e1).reverse).toList) = false := by
      rw [beq_eq_false_iff_ne]
      exact fun h => heq (bs_inj (toList_inj h))
    have HNE : Hid _ := heq
    clear heq
    generalize bs (backText (tx s2) e2) = T2 at *
    generalize bs (backText (tx s1) e1).reverse = T3 at *
    go_wp2
    go_ret2
    exact ⟨.inr ⟨HNE.out, rfl⟩, hb03⟩

/-- An index of a text, in memory. -/
def IndexP (w : World) (g : Nat) (t : List UInt8) (rate : Nat) : Prop :=
  ∃ f f2, IsSA t f ∧ IsSA t.reverse f2 ∧ IndexQ w g (bs (pre t f (t.length + 1))) (endOf f (t.length + 1)) (bs (pre t.reverse f2 (t.length + 1))) (endOf f2 (t.length + 1)) rate f

set_option maxRecDepth 10000 in
set_option maxHeartbeats 400000 in
theorem indexOf_any (s : ByteArray) (rate : Nat) (w : World) (hn : s.size ≤ 2000) (hr0 : 0 < rate) :
    Calls Tryz.prog 54 #[.string s, .int .i64 (rate : Int)] w fun en w' => ∃ g, en = .returned (.pointer (some ⟨g, 0, none⟩)) ∧ IndexP w' g (tx s) rate ∧ Below w.heap.size w w' := by
  go_enter Tryz.func54, Tryz.ntmps54
  go_wp2_with fail
  refine (transformed_any s _ hn).mono ?_
  rintro en w1 ⟨f, hf, rfl, hb1⟩
  go_wp2_with fail
  refine (reversed_any s _ hn).mono ?_
  rintro en w2 ⟨rfl, hb2⟩
  have hb12 := hb1.trans (hb2.mono hb1.size)
  go_wp2_with fail
  refine (transformed_any (revS s) _ (by rw [revS_size]; exact hn)).mono ?_
  rintro en w3 ⟨f2, hf2, rfl, hb3⟩
  have hb13 := hb12.trans (hb3.mono hb12.size)
  rw [revS_size, tx_revS] at *
  clear hb12 hb1 hb2 hb3
  have hl := tx_length s
  have hl1 := bwt_length hf
  have hl2 := bwt_length hf2
  have q1 := bwt_ok hf
  have q2 := bwt_ok hf2
  have q3 := bwt_back hf
  have q4 := bwt_back hf2
  rw [List.length_reverse] at hl2 q2 q4
  rw [hl] at hl1 hl2 q1 q2 q3 q4
  have e1 := (sa_end hf).1
  have e2 := (sa_end hf2).1
  rw [List.length_reverse] at e2
  rw [hl] at e1 e2
  go_wp2_with fail
  refine (join_ok (bs (pre (tx s) f (s.size + 1))) (bs (pre (tx s).reverse f2 (s.size + 1))) (endOf f (s.size + 1)) (endOf f2 (s.size + 1)) rate f w3 (by rw [bs_size, hl1]; exact hn) (by rw [bs_size, hl2]; exact hn) (by rw [bs_size, hl1]; exact e1) (by rw [bs_size, hl2]; exact e2) (by rw [tx_bs]; exact q1) (by rw [tx_bs]; exact q2) hr0 (by rw [tx_bs, q3]; exact hf)).mono ?_
  rintro en w4 ⟨h, hb4⟩
  rw [tx_bs, tx_bs, q3, q4] at h
  rcases h with ⟨_, g, rfl, hI⟩ | ⟨h, _⟩
  · clear q1 q2 q3 q4 e1 e2 hl1 hl2
    go_wp2
    go_ret
    exact ⟨g, rfl, ⟨f, f2, hf, hf2, by rw [hl]; exact hI⟩, hb13.trans (hb4.mono hb13.size)⟩
  · exact absurd rfl h
end Go.Proofs.YtkebgnpifmcmaabGreat

namespace Go.Proofs.YtkebgnpifmcmaabGreat
open Go.RowKit

/-- A number, in two bytes. -/
def num2 (n : Nat) : List UInt8 := [UInt8.ofNat (n / 256), UInt8.ofNat n]

theorem num2_length (n : Nat) : (num2 n).length = 2 := rfl
theorem BL_append (l m : List UInt8) : BL l ++ BL m = BL (l ++ m) := by simp [BL]
theorem BL_num2 (n : Nat) (hn : n ≤ 60000) : [.int .u8 ((n : Int) / 256), .int .u8 ((n : Int) % 256)] = BL (num2 n) := by
  have h1 : (((UInt8.ofNat (n / 256)).toNat : Nat) : Int) = (n : Int) / 256 := by rw [ofNat_toNat (by omega)]; omega
  have h2 : (((UInt8.ofNat n).toNat : Nat) : Int) = (n : Int) % 256 := by simp [UInt8.toNat_ofNat']
  show _ = [Value.int .u8 ((UInt8.ofNat (n / 256)).toNat : Int), Value.int .u8 ((UInt8.ofNat n).toNat : Int)]
  rw [h1, h2]

set_option maxRecDepth 10000 in
set_option maxHeartbeats 400000 in
theorem appendNumber_any (base : Nat) (v : Value) (l : List UInt8) (n : Nat) (w : World) (hown : w.ownsRow base 5 1 v l.length (BL l)) (hl : l.length ≤ 100000) (hn : n ≤ 60000) (hbase : base ≤ w.heap.size) :
    Calls Tryz.prog 79 #[v, .int .i64 (n : Int)] w fun e w' => ∃ v', e = .returned v' ∧ w'.ownsRow base 5 1 v' (l ++ num2 n).length (BL (l ++ num2 n)) ∧ Below base w w' := by
  obtain ⟨i0, hi, hz0, hz1, hz2⟩ := info_parts Tryz.info5
  have hv : ∃ ao m c, v = .slice ao m c := by
    rcases hown.2 with ⟨rfl, _⟩ | ⟨g', cp, cur, rfl, _⟩
    · exact ⟨_, _, _, rfl⟩
    · exact ⟨_, _, _, rfl⟩
  obtain ⟨ao, m, c, rfl⟩ := hv
  go_enter Tryz.func79, Tryz.ntmps79
  go_wp2_with (at_builtin; refine wpList_append_own _ rfl (.tmp 5) (.tmp 11) 75 rfl base 5 i0 (.int .u8 0) 1 1 Tryz.underlying75 hi hz0 hz1 hz2 rfl (by decide) (.slice ao m c) l.length (BL l) rfl (hown.alloc _) ⟨w.heap.size, 0, none⟩ 2 2 [.int .u8 ((n : Int) / 256), .int .u8 ((n : Int) % 256)] rfl rfl (cell_arr_new w 5 #[.int .u8 ((n : Int) / 256), .int .u8 ((n : Int) % 256)]) (fun u hu => by simp at hu; rcases hu with rfl | rfl <;> rfl) (by unfold maxLen; omega) (by omega) (by simp; omega) ?_; intro v' w1 hown1 hgr1 _)
  go_ret
  rw [BL_num2 n hn, BL_append] at hown1
  exact ⟨v', rfl, by rw [List.length_append, num2_length]; exact hown1, ((Below.refl _ _).alloc hbase _).grown hgr1 (by simp; omega) (fun k hk => (hown.lt k hk).1)⟩


theorem as_mf (a : Addr) (w : World) : (Instr.typeAssert (.iface 182 (.pointer (some a))) 65 180 true).run Tryz.prog w = .ok (.tuple #[.pointer none, .bool false]) w := by kernel_rfl
theorem as_mm (a : Addr) (w : World) : (Instr.typeAssert (.iface 182 (.pointer (some a))) 65 182 true).run Tryz.prog w = .ok (.tuple #[.pointer (some a), .bool true]) w := by kernel_rfl
theorem as_ff (a : Addr) (w : World) : (Instr.typeAssert (.iface 180 (.pointer (some a))) 65 180 true).run Tryz.prog w = .ok (.tuple #[.pointer (some a), .bool true]) w := by kernel_rfl

set_option maxRecDepth 10000 in
set_option maxHeartbeats 1000000 in
theorem bodyOfSide_many (w : World) (g off e gc : Nat) (s : ByteArray) (h1 : w.cell? ⟨g, off, none⟩ = some (.iface 182 (.pointer (some ⟨gc, 0, none⟩)))) (h2 : w.cell? ⟨g, off + 1, none⟩ = some (.int .i64 (e : Int))) (hM : ManyC w gc s) (hn : s.size ≤ 2000) (he : e ≤ 60000) :
    Calls Tryz.prog 110 #[.pointer (some ⟨g, off, none⟩)] w fun en w' => ∃ v, en = .returned v ∧ w'.ownsRow w.heap.size 5 1 v (num2 e ++ [1] ++ tx s).length (BL (num2 e ++ [1] ++ tx s)) ∧ Below w.heap.size w w' := by
  obtain ⟨i0, hi, hz0, hz1, hz2⟩ := info_parts Tryz.info5
  go_enter Tryz.func110, Tryz.ntmps110
  go_wp2_with fail
  refine (appendNumber_any w.heap.size (.slice none 0 0) [] e w (World.ownsRow_nil _ _ _ _) (by simp) he (Nat.le_refl _)).mono ?_
  rintro en w1 ⟨v1, rfl, hown1, hb1⟩
  rw [List.nil_append] at hown1
  have hc1 : w1.cell? ⟨g, off, none⟩ = some (.iface 182 (.pointer (some ⟨gc, 0, none⟩))) := cell_below h1 hb1
  have ha1 := as_mf
  have ha2 := as_mm
  have hsz1 := hb1.size
  have hv1 : ∃ g1 cap1, v1 = .slice (some ⟨g1, 0, none⟩) 2 cap1 := own_form hown1 (by decide)
  obtain ⟨g1, cap1, rfl⟩ := hv1
  go_wp2_with (at_builtin; refine wpList_append_own _ rfl (.tmp 46) (.tmp 47) 75 rfl w.heap.size 5 i0 (.int .u8 0) 1 1 Tryz.underlying75 hi hz0 hz1 hz2 rfl (by decide) (.slice (some ⟨g1, 0, none⟩) 2 cap1) 2 (BL (num2 e)) rfl (hown1.alloc _) ⟨w1.heap.size, 0, none⟩ 1 1 [.int .u8 1] rfl rfl (cell_one_new _ _ _) (fun u hu => by simp at hu; subst hu; rfl) (by unfold maxLen; omega) (by omega) (by simp; omega) ?_; intro v2 w2 hown2 hgr2 _)
  have hb2 : Below w.heap.size w w2 := (hb1.alloc hsz1 _).grown hgr2 (by simp; omega) (fun k hk => (hown1.lt k hk).1)
  have hown2' : w2.ownsRow w.heap.size 5 1 v2 3 (BL (num2 e ++ [1])) := by rw [← BL_append]; exact hown2
  clear hown2 hgr2 hown1 hb1
  go_wp2_with fail
  refine (many_bytes w2 gc s (hM.below hb2)).mono ?_
  rintro en w3 ⟨rfl, rfl⟩
  have hsz2 := hb2.size
  go_wp2_with (at_builtin; refine Lib.wpList_append_own_string _ rfl (.tmp 49) (.tmp 51) 75 9 rfl w.heap.size 5 i0 Tryz.underlying75 Tryz.underlying9 hi hz0 hz1 hz2 v2 3 (BL (num2 e ++ [1])) rfl hown2' s rfl (by unfold maxLen; omega) (by omega) hsz2 ?_; intro v4 w4 hown4 hgr4 _)
  have hb4 : Below w.heap.size w w4 := hb2.grown hgr4 hsz2 (fun k hk => (hown2'.lt k hk).1)
  rw [show Lib.strCells s = BL (tx s) from rfl, BL_append] at hown4
  go_wp2
  go_ret
  exact ⟨v4, rfl, by rw [List.length_append, List.length_append, num2_length, tx_length]; exact hown4, hb4⟩

/-- The rows of the letters, packed, one behind the other. -/
def packs (s lt : ByteArray) : Nat → List UInt8
  | 0 => []
  | k + 1 => packs s lt k ++ packed (isLet s lt k) s.size
theorem packs_length (s lt : ByteArray) (k : Nat) : (packs s lt k).length = k * ((s.size + 7) / 8) := by
  induction k with
  | zero => simp [packs]
  | succ k ih => rw [packs, List.length_append, ih, packed_length, Nat.succ_mul]

set_option maxRecDepth 10000 in
set_option maxHeartbeats 1000000 in
theorem bodyOfSide_few (w : World) (g off e gc : Nat) (s lt : ByteArray) (h1 : w.cell? ⟨g, off, none⟩ = some (.iface 180 (.pointer (some ⟨gc, 0, none⟩)))) (h2 : w.cell? ⟨g, off + 1, none⟩ = some (.int .i64 (e : Int))) (hF : FewC w gc s lt) (hn : s.size ≤ 2000) (hlt : lt.size ≤ 8) (he : e ≤ 60000) :
    Calls Tryz.prog 110 #[.pointer (some ⟨g, off, none⟩)] w fun en w' => ∃ v, en = .returned v ∧ w'.ownsRow w.heap.size 5 1 v (num2 e ++ [0, UInt8.ofNat lt.size] ++ tx lt ++ packs s lt lt.size).length (BL (num2 e ++ [0, UInt8.ofNat lt.size] ++ tx lt ++ packs s lt lt.size)) ∧ Below w.heap.size w w' := by
  obtain ⟨i0, hi, hz0, hz1, hz2⟩ := info_parts Tryz.info5
  go_enter Tryz.func110, Tryz.ntmps110
  go_wp2_with fail
  refine (appendNumber_any w.heap.size (.slice none 0 0) [] e w (World.ownsRow_nil _ _ _ _) (by simp) he (Nat.le_refl _)).mono ?_
  rintro en w1 ⟨v1, rfl, hown1, hb1⟩
  rw [List.nil_append] at hown1
  have hc1 : w1.cell? ⟨g, off, none⟩ = some (.iface 180 (.pointer (some ⟨gc, 0, none⟩))) := cell_below h1 hb1
  have ha1 := as_ff
  have hsz1 := hb1.size
  have hv1 : ∃ g1 cap1, v1 = .slice (some ⟨g1, 0, none⟩) 2 cap1 := own_form hown1 (by decide)
  obtain ⟨g1, cap1, rfl⟩ := hv1
  go_wp2_with fail
  refine (few_letters w1 gc s lt (hF.below hb1)).mono ?_
  rintro en w2 ⟨rfl, rfl⟩
  have hlb : ((UInt8.ofNat lt.size).toNat : Int) = (lt.size : Int) := by rw [ofNat_toNat (by omega)]
  have HB2 : Hid ([Value.int .u8 0, .int .u8 (lt.size : Int)] = BL [0, UInt8.ofNat lt.size]) := by
    show _ = [Value.int .u8 (((0 : UInt8).toNat : Nat) : Int), Value.int .u8 ((UInt8.ofNat lt.size).toNat : Int)]
    rw [hlb]; rfl
  clear hlb
  go_wp2_with (first | (at_builtin; refine wpList_append_own _ rfl (.tmp 22) (.tmp 26) 75 rfl w.heap.size 5 i0 (.int .u8 0) 1 1 Tryz.underlying75 hi hz0 hz1 hz2 rfl (by decide) (.slice (some ⟨g1, 0, none⟩) 2 cap1) 2 (BL (num2 e)) rfl (hown1.alloc _) ⟨w2.heap.size, 0, none⟩ 2 2 [.int .u8 0, .int .u8 (lt.size : Int)] rfl rfl (cell_arr_new w2 5 #[.int .u8 0, .int .u8 (lt.size : Int)]) (fun u hu => by simp at hu; rcases hu with rfl | rfl <;> rfl) (by unfold maxLen; omega) (by omega) (by simp; omega) ?_; intro v3 w3 hown3 hgr3 _; have hb3 : Below w.heap.size w w3 := (hb1.alloc hsz1 _).grown hgr3 (by simp; omega) (fun k hk => (hown1.lt k hk).1); have hsz3 := hb3.size; rw [HB2.out, BL_append] at hown3) | (at_builtin; refine Lib.wpList_append_own_string _ rfl (.tmp 28) (.tmp 29) 75 9 rfl w.heap.size 5 i0 Tryz.underlying75 Tryz.underlying9 hi hz0 hz1 hz2 v3 4 (BL (num2 e ++ [0, UInt8.ofNat lt.size])) rfl hown3 lt rfl (by unfold maxLen; omega) (by omega) hsz3 ?_; intro v4 w4 hown4 hgr4 _))
  have hb4 : Below w.heap.size w w4 := hb3.grown hgr4 hsz3 (fun k hk => (hown3.lt k hk).1)
  rw [show Lib.strCells lt = BL (tx lt) from rfl, BL_append] at hown4
  have HPL : Hid (∀ k, (num2 e ++ [0, UInt8.ofNat lt.size] ++ tx lt ++ packs s lt k).length = 4 + lt.size + k * ((s.size + 7) / 8)) := fun k => by
    rw [List.length_append, List.length_append, List.length_append, packs_length, num2_length, tx_length]; rfl
  have hown4' : w4.ownsRow w.heap.size 5 1 v4 (4 + lt.size + 0 * ((s.size + 7) / 8)) (BL (num2 e ++ [0, UInt8.ofNat lt.size] ++ tx lt ++ packs s lt 0)) := by
    rw [packs, List.append_nil, Nat.zero_mul, Nat.add_zero]; exact hown4
  have hcs : (s.size + 7) / 8 ≤ 260 := by omega
  generalize hPR : num2 e ++ [0, UInt8.ofNat lt.size] ++ tx lt = PR at *
  have HPR : Hid (num2 e ++ [0, UInt8.ofNat lt.size] ++ tx lt = PR) := hPR
  clear hPR
  generalize hM : (s.size + 7) / 8 = M at *
  have HM : Hid ((s.size + 7) / 8 = M) := hM
  clear hM hown4 hgr4 hown3 hgr3 hb3 hown1 hb1 HB2 hc1 ha1 hsz3
  go_loopw [3, 33, 6] (fun v i _ wr => ∃ k : Nat, k ≤ lt.size ∧ i = .int .i64 (k : Int) ∧ wr.ownsRow w.heap.size 5 1 v (4 + lt.size + k * M) (BL (PR ++ packs s lt k)) ∧ Below w.heap.size w wr) (fun _ i _ _ => lt.size - (intOf i).toNat)
  case atStart => exact ⟨0, Nat.zero_le _, rfl, hown4', hb4⟩
  case round =>
    clear hown4' hb4
    obtain ⟨k, hk, rfl, hown, hb⟩ := hrel
    by_cases hlt2 : k < lt.size
    · have hkM : k * M ≤ 8 * 260 := Nat.mul_le_mul (by omega) hcs
      go_wp2_with fail
      refine (few_rowOf wr gc k s lt (hF.below hb) hlt2 (by omega)).mono ?_
      rintro en w5 ⟨a5, b5, c5, rfl, hbr5, hb5⟩
      go_wp2_with fail
      refine (hbr5.pack (by omega)).mono ?_
      rintro en w6 ⟨rfl, hb6⟩
      have hbb5 := hb.trans (hb5.mono hb.size)
      have hbb6 := hbb5.trans (hb6.mono hbb5.size)
      have hown6 := own_below (own_below hown hb5) hb6
      have hsz6 := hbb6.size
      have hps : (bs (packed (isLet s lt k) s.size)).size = M := by rw [bs_size, packed_length]; exact HM.out
      have HPK : Hid (packs s lt (k + 1) = packs s lt k ++ packed (isLet s lt k) s.size) := rfl
      have HST : Hid (Lib.strCells (bs (packed (isLet s lt k) s.size)) = BL (packed (isLet s lt k) s.size)) := by
        show BL (tx (bs (packed (isLet s lt k) s.size))) = _
        rw [tx_bs]
      generalize bs (packed (isLet s lt k) s.size) = PS at *
      clear hown hb hb5 hb6 hbr5 hbb5
      go_wp2_with (at_builtin; refine Lib.wpList_append_own_string _ rfl (.tmp 36) (.tmp 40) 75 9 rfl w.heap.size 5 i0 Tryz.underlying75 Tryz.underlying9 hi hz0 hz1 hz2 u3 (4 + lt.size + k * M) (BL (PR ++ packs s lt k)) rfl hown6 PS rfl (by unfold maxLen; omega) (by omega) hsz6 ?_; intro v7 w7 hown7 hgr7 _)
      have hb7 : Below w.heap.size w w7 := hbb6.grown hgr7 hsz6 (fun k hk => (hown6.lt k hk).1)
      rw [HST.out, BL_append, List.append_assoc, ← HPK.out, hps] at hown7
      go_roundw
      case rel => exact ⟨k + 1, by omega, by go_num, by rw [Nat.succ_mul, ← Nat.add_assoc]; exact hown7, hb7⟩
      case measure => simp [intOf]; omega
    · have hkl : k = lt.size := by omega
      subst hkl
      go_wp2
      go_ret
      exact ⟨_, rfl, by rw [HPR.out, HPL.out]; exact hown, hb⟩

/-- A side, as bytes. -/
def sideB (s : ByteArray) (e : Nat) : List UInt8 :=
  if (letters s).length ≤ 8 then num2 e ++ [0, UInt8.ofNat (bs (letters s)).size] ++ tx (bs (letters s)) ++ packs s (bs (letters s)) (bs (letters s)).size else num2 e ++ [1] ++ tx s
theorem sideB_length (s : ByteArray) (e : Nat) (hn : s.size ≤ 2000) : (sideB s e).length ≤ 3000 ∧ 0 < (sideB s e).length := by
  unfold sideB
  by_cases h : (letters s).length ≤ 8
  · rw [if_pos h]
    have hM : (letters s).length * ((s.size + 7) / 8) ≤ 8 * 260 := Nat.mul_le_mul h (by omega)
    simp only [List.length_append, packs_length, num2_length, tx_bs, bs_size, List.length_cons, List.length_nil]
    omega
  · rw [if_neg h]
    simp only [List.length_append, num2_length, tx_length, List.length_cons, List.length_nil]
    omega
theorem bodyOfSide_any (w : World) (g off e : Nat) (s : ByteArray) (h : SideP w g off s e) (hn : s.size ≤ 2000) (he : e ≤ 60000) :
    Calls Tryz.prog 110 #[.pointer (some ⟨g, off, none⟩)] w fun en w' => ∃ v, en = .returned v ∧ w'.ownsRow w.heap.size 5 1 v (sideB s e).length (BL (sideB s e)) ∧ Below w.heap.size w w' := by
  obtain ⟨v, h1, h2, _, h4⟩ := h
  unfold sideB
  rcases h4 with ⟨h8, gc, rfl, hF⟩ | ⟨h8, gc, rfl, hM⟩
  · rw [if_pos h8]
    exact bodyOfSide_few w g off e gc s (bs (letters s)) h1 h2 hF hn (by rw [bs_size]; exact h8) he
  · rw [if_neg (Nat.not_le.2 h8)]
    exact bodyOfSide_many w g off e gc s h1 h2 hM hn he
end Go.Proofs.YtkebgnpifmcmaabGreat

namespace Go.Proofs.YtkebgnpifmcmaabGreat
open Go.RowKit

/-- Bytes that the call owns, in whatever block. -/
def OwnG (w : World) (base : Nat) (v : Value) (l : List UInt8) : Prop :=
  ∃ g cap, v = .slice (some ⟨g, 0, none⟩) l.length cap ∧ base ≤ g ∧ g < w.heap.size ∧ l.length ≤ cap ∧ (∀ j u, (BL l)[j]? = some u → w.cell? ⟨g, j, none⟩ = some u) ∧ ∀ j, j < cap → (w.cell? ⟨g, j, none⟩).isSome = true ∧ w.frozen? ⟨g, j, none⟩ = false
theorem OwnG.below {w w' : World} {base : Nat} {v : Value} {l : List UInt8} (h : OwnG w base v l) (hb : Below w.heap.size w w') : OwnG w' base v l := by
  obtain ⟨g, cap, h1, h2, h3, h4, h5, h6⟩ := h
  have hc : ∀ j, w'.cell? ⟨g, j, none⟩ = w.cell? ⟨g, j, none⟩ := fun j => by simp only [World.cell?, hb.block g h3]
  have hf : ∀ j, w'.frozen? ⟨g, j, none⟩ = w.frozen? ⟨g, j, none⟩ := fun j => by simp only [World.frozen?, hb.block g h3]
  exact ⟨g, cap, h1, h2, Nat.lt_of_lt_of_le h3 hb.size, h4, fun j u hu => by rw [hc]; exact h5 j u hu, fun j hj => by rw [hc, hf]; exact h6 j hj⟩
theorem OwnG.of {w : World} {base : Nat} {v : Value} {l : List UInt8} (h : w.ownsRow base 5 1 v l.length (BL l)) (hl : 0 < l.length) : OwnG w base v l := by
  rcases h.2 with ⟨_, h0⟩ | ⟨g, cap, cur, rfl, hbs, hg, hnc, hcm, hcs, htake⟩
  · omega
  · have hB : Blk w g 5 cur := hg
    refine ⟨g, cap, rfl, hbs, hB.lt, hnc, fun j u hu => ?_, fun j hj => ?_⟩
    · rw [← htake, List.getElem?_take] at hu
      rw [hB.cell j]
      by_cases hj : j < l.length * 1
      · rw [if_pos hj] at hu; simpa using hu
      · rw [if_neg hj] at hu; cases hu
    · rw [hB.cell j, hB.free j, Array.getElem?_eq_getElem (by omega)]
      exact ⟨rfl, rfl⟩

theorem below_setCellsG {B g : Nat} {a : World} (hg : B ≤ g) : ∀ (vs : List Value) (o : Nat) (w : World), Below B a w → Below B a (w.setCells g o vs)
  | [], _, _, h => h
  | v :: r, o, w, h => below_setCellsG hg r (o + 1) (w.setCell ⟨g, o, none⟩ v) (h.setCell hg v)
theorem size_setCellsG (g : Nat) : ∀ (vs : List Value) (o : Nat) (w : World), (w.setCells g o vs).heap.size = w.heap.size
  | [], _, _ => rfl
  | v :: r, o, w => by rw [World.setCells, size_setCellsG g r]; simp
/-- Written behind. -/
theorem OwnG.write {w : World} {base g cap : Nat} {l m : List UInt8} (h2 : base ≤ g) (h3 : g < w.heap.size) (hr : l.length + m.length ≤ cap) (h5 : ∀ j u, (BL l)[j]? = some u → w.cell? ⟨g, j, none⟩ = some u) (h6 : ∀ j, j < cap → (w.cell? ⟨g, j, none⟩).isSome = true ∧ w.frozen? ⟨g, j, none⟩ = false) :
    OwnG (w.setCells g l.length (BL m)) base (.slice (some ⟨g, 0, none⟩) (l.length + m.length) cap) (l ++ m) := by
  have hml := BL_length m
  have hin := World.cell?_setCells_in g (BL m) l.length w (fun j hj => (h6 _ (by omega)).1)
  have hout : ∀ j, j < l.length ∨ l.length + m.length ≤ j → (w.setCells g l.length (BL m)).cell? ⟨g, j, none⟩ = w.cell? ⟨g, j, none⟩ := fun j hj => World.cell?_setCells_out g (BL m) l.length w ⟨g, j, none⟩ (fun _ _ => by rw [hml]; exact hj)
  refine ⟨g, cap, by rw [List.length_append], h2, by rw [size_setCellsG]; exact h3, by rw [List.length_append]; exact hr, fun j u hu => ?_, fun j hj => ?_⟩
  · by_cases hj : j < l.length
    · rw [hout j (.inl hj)]
      refine h5 j u ?_
      rw [← BL_append, List.getElem?_append_left (by rw [BL_length]; exact hj)] at hu
      exact hu
    · rw [← BL_append, List.getElem?_append_right (by rw [BL_length]; omega), BL_length] at hu
      have hjm : j - l.length < (BL m).length := (List.getElem?_eq_some_iff.1 hu).1
      have := hin (j - l.length) hjm
      rw [show l.length + (j - l.length) = j from by omega] at this
      rw [this]
      rw [List.getElem?_eq_getElem hjm] at hu
      exact hu
  · rw [World.frozen?_setCells]
    refine ⟨?_, (h6 j hj).2⟩
    by_cases hj2 : j < l.length ∨ l.length + m.length ≤ j
    · rw [hout j hj2]; exact (h6 j hj).1
    · have := hin (j - l.length) (by omega)
      rw [show l.length + (j - l.length) = j from by omega] at this
      rw [this]; rfl

set_option maxRecDepth 10000 in
set_option maxHeartbeats 400000 in
theorem appendNumber_G (base : Nat) (v : Value) (l : List UInt8) (n : Nat) (w : World) (hown : OwnG w base v l) (hl : l.length ≤ 100000) (hn : n ≤ 60000) (hbase : base ≤ w.heap.size) :
    Calls Tryz.prog 79 #[v, .int .i64 (n : Int)] w fun e w' => ∃ v', e = .returned v' ∧ OwnG w' base v' (l ++ num2 n) ∧ Below base w w' := by
  obtain ⟨i0, hi, hz0, hz1, hz2⟩ := info_parts Tryz.info5
  obtain ⟨g, cap, rfl, h2, h3, h4, h5, h6⟩ := hown
  have h5' : ∀ j u, (BL l)[j]? = some u → (w.alloc (.cells #[.int .u8 ((n : Int) / 256), .int .u8 ((n : Int) % 256)] 5)).cell? ⟨g, 0 + j, none⟩ = some u := fun j u hu => by
    rw [Nat.zero_add]; exact cell_below (h5 j u hu) ((Below.refl _ _).alloc (Nat.le_refl _) _)
  have hcA : ∀ j, (w.alloc (.cells #[.int .u8 ((n : Int) / 256), .int .u8 ((n : Int) % 256)] 5)).cell? ⟨g, j, none⟩ = w.cell? ⟨g, j, none⟩ := fun j => by
    simp only [World.cell?, Below.heap_alloc w _ g h3]
  have hfA : ∀ j, (w.alloc (.cells #[.int .u8 ((n : Int) / 256), .int .u8 ((n : Int) % 256)] 5)).frozen? ⟨g, j, none⟩ = w.frozen? ⟨g, j, none⟩ := fun j => by
    simp only [World.frozen?, Below.heap_alloc w _ g h3]
  have h6' : l.length + 2 ≤ cap → ∀ j, j < [Value.int .u8 ((n : Int) / 256), .int .u8 ((n : Int) % 256)].length → ((w.alloc (.cells #[.int .u8 ((n : Int) / 256), .int .u8 ((n : Int) % 256)] 5)).cell? ⟨g, 0 + l.length * 1 + j, none⟩).isSome = true ∧ (w.alloc (.cells #[.int .u8 ((n : Int) / 256), .int .u8 ((n : Int) % 256)] 5)).frozen? ⟨g, 0 + l.length * 1 + j, none⟩ = false := fun hc j hj => by
    simp only [List.length_cons, List.length_nil] at hj
    rw [hcA, hfA]; exact h6 _ (by omega)
  have HB := BL_num2 n hn
  have HBL : Hid _ := HB
  clear HB
  by_cases hroom : l.length + 2 ≤ cap
  · go_enter Tryz.func79, Tryz.ntmps79
    go_wp2_with (at_builtin; refine wpList_append_arg _ rfl (.tmp 5) (.tmp 11) 75 rfl 5 i0 (.int .u8 0) 1 1 Tryz.underlying75 hi hz0 hz1 hz2 rfl (by decide) g 0 l.length cap (BL l) rfl (by simp [BL]) h5' ⟨w.heap.size, 0, none⟩ 2 2 [.int .u8 ((n : Int) / 256), .int .u8 ((n : Int) % 256)] rfl rfl (cell_arr_new w 5 #[.int .u8 ((n : Int) / 256), .int .u8 ((n : Int) % 256)]) (fun u hu => by simp at hu; rcases hu with rfl | rfl <;> rfl) h6' (by unfold maxLen; omega) (by omega) (fun _ => ?_) (fun h => absurd hroom (by omega)))
    go_ret
    have hw := OwnG.write (base := base) (w := w.alloc (.cells #[.int .u8 ((n : Int) / 256), .int .u8 ((n : Int) % 256)] 5)) (l := l) (m := num2 n) h2 (by simp; omega) (by rw [num2_length]; exact hroom) (fun j u hu => by have := h5' j u hu; rwa [Nat.zero_add] at this) (fun j hj => by rw [hcA, hfA]; exact h6 j hj)
    rw [← HBL.out] at hw
    exact ⟨_, rfl, hw, below_setCellsG h2 _ _ _ ((Below.refl _ _).alloc hbase _)⟩
  · go_enter Tryz.func79, Tryz.ntmps79
    go_wp2_with (at_builtin; refine wpList_append_arg _ rfl (.tmp 5) (.tmp 11) 75 rfl 5 i0 (.int .u8 0) 1 1 Tryz.underlying75 hi hz0 hz1 hz2 rfl (by decide) g 0 l.length cap (BL l) rfl (by simp [BL]) h5' ⟨w.heap.size, 0, none⟩ 2 2 [.int .u8 ((n : Int) / 256), .int .u8 ((n : Int) % 256)] rfl rfl (cell_arr_new w 5 #[.int .u8 ((n : Int) / 256), .int .u8 ((n : Int) % 256)]) (fun u hu => by simp at hu; rcases hu with rfl | rfl <;> rfl) h6' (by unfold maxLen; omega) (by omega) (fun h => absurd h hroom) ?_; intro _ v' w1 hown1 hgr1)
    go_ret
    rw [HBL.out, BL_append] at hown1
    exact ⟨v', rfl, OwnG.of (own_base (by rw [List.length_append, num2_length]; exact hown1) (by simp; omega)) (by rw [List.length_append, num2_length]; omega), ((Below.refl _ _).alloc hbase _).grown hgr1 (by simp; omega) (fun _ h => by cases h)⟩
end Go.Proofs.YtkebgnpifmcmaabGreat
