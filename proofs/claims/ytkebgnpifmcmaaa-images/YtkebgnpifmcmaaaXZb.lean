import Derived.Test.YtkebgnpifmcmaaaXZa
namespace Go.Proofs.Ytkebgnpifmcmaaa
open Go.RowKit

/-- The packed rows from one on. -/
def rst (s lt : ByteArray) : Nat → Nat → List UInt8
  | 0, _ => []
  | d + 1, k => packed (isLet s lt k) s.size ++ rst s lt d (k + 1)
theorem packs_rst (s lt : ByteArray) (d k : Nat) : packs s lt (k + d) = packs s lt k ++ rst s lt d k := by
  induction d generalizing k with
  | zero => simp [rst]
  | succ d ih =>
    rw [show k + (d + 1) = (k + 1) + d from by omega, ih (k + 1), packs, rst, List.append_assoc]
theorem few_state (s lt : ByteArray) (r : ByteArray × Bool) (m : Nat) (h0 : fSt r s.size 0 = (bs (rst s lt m 0), false)) (k : Nat) (hk : k ≤ m) : fSt r s.size k = (bs (rst s lt (m - k) k), false) := by
  induction k with
  | zero => exact h0
  | succ k ih =>
    have hp := rTake_bs (packed (isLet s lt k) s.size) (rst s lt (m - (k + 1)) (k + 1))
    rw [packed_length] at hp
    rw [fSt, ih (by omega), show m - k = (m - (k + 1)) + 1 from by omega, rst, hp]
theorem few_packed (s lt : ByteArray) (r : ByteArray × Bool) (m : Nat) (h0 : fSt r s.size 0 = (bs (rst s lt m 0), false)) (k : Nat) (hk : k < m) : fPk r s.size k = bs (packed (isLet s lt k) s.size) := by
  have hp := rTake_bs (packed (isLet s lt k) s.size) (rst s lt (m - (k + 1)) (k + 1))
  rw [packed_length] at hp
  rw [fPk, few_state s lt r m h0 k (by omega), show m - k = (m - (k + 1)) + 1 from by omega, rst, hp]
theorem few_value (s lt : ByteArray) (r : ByteArray × Bool) (h0 : fSt r s.size 0 = (bs (rst s lt lt.size 0), false)) (hl : fLet r = lt) (i : Nat) (hi : i < s.size) (k : Nat) (hk : k ≤ lt.size) (h : ∃ j, j < k ∧ (tx lt).getD j 0 = s[i]) : fVal r s.size k i = s[i] := by
  induction k with
  | zero => obtain ⟨j, hj, _⟩ := h; omega
  | succ k ih =>
    rw [fVal, few_packed s lt r lt.size h0 k (by omega), strBit_packed _ _ _ hi, isLet_at s lt k i hi (by omega), hl]
    by_cases e : s[i] = lt[k]
    · rw [if_pos (by simpa using e), tx_getD lt k (by omega), e]
    · rw [if_neg (by simpa using e)]
      obtain ⟨j, hj, hv⟩ := h
      refine ih (by omega) ⟨j, ?_, hv⟩
      by_cases e2 : j = k
      · subst e2
        rw [tx_getD lt j (by omega)] at hv
        exact absurd hv.symm e
      · omega
theorem side_few_back (s lt : ByteArray) (e : Nat) (he : e < 65536) (h8 : lt.size ≤ 8) (hh : ∀ i, (hi : i < s.size) → ∃ k, k < lt.size ∧ (tx lt).getD k 0 = s[i]) :
    sOk (bs (num2 e ++ [0, UInt8.ofNat lt.size] ++ tx lt ++ packs s lt lt.size)) s.size ∧ sText (bs (num2 e ++ [0, UInt8.ofNat lt.size] ++ tx lt ++ packs s lt lt.size)) s.size = s ∧ sEnd (bs (num2 e ++ [0, UInt8.ofNat lt.size] ++ tx lt ++ packs s lt lt.size)) = e := by
  have hpk := packs_rst s lt lt.size 0
  rw [Nat.zero_add, packs, List.nil_append] at hpk
  rw [hpk, show num2 e ++ [0, UInt8.ofNat lt.size] ++ tx lt ++ rst s lt lt.size 0 = num2 e ++ (0 :: (UInt8.ofNat lt.size :: (tx lt ++ rst s lt lt.size 0))) from by simp]
  have e1 := rNum_num2 e he (0 :: (UInt8.ofNat lt.size :: (tx lt ++ rst s lt lt.size 0)))
  generalize hB : bs (num2 e ++ (0 :: (UInt8.ofNat lt.size :: (tx lt ++ rst s lt lt.size 0)))) = B at e1 ⊢
  have h1 : sKind B = 0 := by unfold sKind; rw [e1]; simp only [rByte_bs]; rfl
  have h2 : sRd B = (bs (UInt8.ofNat lt.size :: (tx lt ++ rst s lt lt.size 0)), false) := by unfold sRd; rw [e1]; simp only [rByte_bs]
  have h3 : rByte (sRd B) = (lt.size, (bs (tx lt ++ rst s lt lt.size 0), false)) := by rw [h2, rByte_bs, ofNat_toNat (by omega)]
  have h4 := rTake_bs (tx lt) (rst s lt lt.size 0)
  rw [tx_length, bs_tx] at h4
  have h5 : fLet (sRd B) = lt := by unfold fLet; rw [h3]; simp only [h4]
  have h6 : fSt (sRd B) s.size 0 = (bs (rst s lt lt.size 0), false) := by rw [fSt, h3]; simp only [h4]
  refine ⟨.inl ⟨h1, ?_⟩, ?_, by unfold sEnd; rw [e1]⟩
  · rw [h5, few_state s lt _ lt.size h6 lt.size (Nat.le_refl _)]
  · unfold sText
    rw [if_pos h1, ← bs_tx s]
    refine congrArg bs ?_
    rw [bs_tx]
    apply List.ext_getElem
    · rw [fText_length, tx_length]
    · intro i q1 q2
      rw [fText_length] at q1
      have q3 := fText_get (sRd B) s.size i q1
      rw [List.getD_eq_getElem?_getD, List.getElem?_eq_getElem (by rw [fText_length]; exact q1), Option.getD_some] at q3
      have q4 := tx_getD s i q1
      rw [List.getD_eq_getElem?_getD, List.getElem?_eq_getElem q2, Option.getD_some] at q4
      rw [q3, q4, h5]
      exact few_value s lt (sRd B) h6 h5 i q1 lt.size (Nat.le_refl _) (hh i q1)
theorem side_back (s : ByteArray) (e : Nat) (he : e < 65536) : sOk (bs (sideB s e)) s.size ∧ sText (bs (sideB s e)) s.size = s ∧ sEnd (bs (sideB s e)) = e := by
  unfold sideB
  by_cases h : (letters s).length ≤ 8
  · rw [if_pos h]
    exact side_few_back s (bs (letters s)) e he (by rw [bs_size]; exact h) (fun i hi => by
      rw [tx_bs, bs_size]
      exact letters_has s i hi)
  · rw [if_neg h]
    exact side_many_back s e he
end Go.Proofs.Ytkebgnpifmcmaaa
