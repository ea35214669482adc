import Derived.Test.YtkebgnpifmcmaaaXZ
namespace Go.Proofs.Ytkebgnpifmcmaaa
open Go.RowKit

theorem bs_app (a b : List UInt8) : bs (a ++ b) = bs a ++ bs b := by
  apply ByteArray.ext; simp [bs]
theorem bs_front (a b : List UInt8) : (bs (a ++ b)).extract 0 a.length = bs a := by
  apply ByteArray.ext
  simp [bs]
theorem bs_rest (a b : List UInt8) : (bs (a ++ b)).extract a.length (bs (a ++ b)).size = bs b := by
  apply ByteArray.ext
  simp [bs, ByteArray.size]
theorem rTake_bs (a b : List UInt8) : rTake (bs (a ++ b), false) a.length = (bs a, (bs b, false)) := by
  unfold rTake
  rw [if_neg (by simp [bs_size])]
  rw [bs_front, bs_rest]
theorem rByte_bs (x : UInt8) (b : List UInt8) : rByte (bs (x :: b), false) = (x.toNat, (bs b, false)) := by
  unfold rByte
  rw [dif_neg (by simp [bs_size])]
  have h := bs_rest [x] b
  simp only [List.cons_append, List.nil_append, List.length_cons, List.length_nil] at h
  simp only [h]
  rfl
theorem rNum_bs (x y : UInt8) (b : List UInt8) : rNum (bs (x :: y :: b), false) = (x.toNat * 256 + y.toNat, (bs b, false)) := by
  unfold rNum
  rw [dif_neg (by simp [bs_size])]
  have h := bs_rest [x, y] b
  simp only [List.cons_append, List.nil_append, List.length_cons, List.length_nil] at h
  simp only [h]
  rfl
theorem rNum_num2 (n : Nat) (hn : n < 65536) (b : List UInt8) : rNum (bs (num2 n ++ b), false) = (n, (bs b, false)) := by
  rw [show num2 n ++ b = UInt8.ofNat (n / 256) :: UInt8.ofNat n :: b from rfl, rNum_bs, ofNat_toNat (by omega)]
  have h : (UInt8.ofNat n).toNat = n % 256 := by simp [UInt8.toNat_ofNat']
  rw [h, show n / 256 * 256 + n % 256 = n from by omega]

/-- One part, and the parts from one on. -/
def prt (b : Nat → List UInt8) (k : Nat) : List UInt8 := UInt8.ofNat k :: (num2 (b k).length ++ b k)
theorem rPart_prt (b : Nat → List UInt8) (k : Nat) (rest : List UInt8) (hk : k < 256) (hl : (b k).length < 65536) : rPart (bs (prt b k ++ rest), false) = (k, bs (b k), (bs rest, false)) := by
  have e1 : rByte (bs (prt b k ++ rest), false) = (k, (bs (num2 (b k).length ++ (b k ++ rest)), false)) := by
    rw [show prt b k ++ rest = UInt8.ofNat k :: (num2 (b k).length ++ (b k ++ rest)) from by simp [prt, num2], rByte_bs, ofNat_toNat hk]
  unfold rPart
  rw [e1]
  simp only [rNum_num2 _ hl, rTake_bs]
theorem imgB_parts (b : Nat → List UInt8) : imgB b 4 = prt b 0 ++ (prt b 1 ++ (prt b 2 ++ (prt b 3 ++ []))) := by
  simp [imgB, prt, List.append_assoc]
theorem rSt_img (b : Nat → List UInt8) (hl : ∀ k, (b k).length < 65536) : rSt (bs (imgB b 4)) 0 = (bs (prt b 0 ++ (prt b 1 ++ (prt b 2 ++ (prt b 3 ++ [])))), false) ∧ rSt (bs (imgB b 4)) 1 = (bs (prt b 1 ++ (prt b 2 ++ (prt b 3 ++ []))), false) ∧ rSt (bs (imgB b 4)) 2 = (bs (prt b 2 ++ (prt b 3 ++ [])), false) ∧ rSt (bs (imgB b 4)) 3 = (bs (prt b 3 ++ []), false) ∧ rSt (bs (imgB b 4)) 4 = (bs [], false) := by
  have h0 : rSt (bs (imgB b 4)) 0 = (bs (prt b 0 ++ (prt b 1 ++ (prt b 2 ++ (prt b 3 ++ [])))), false) := by rw [← imgB_parts]; rfl
  have h1 : rSt (bs (imgB b 4)) 1 = (bs (prt b 1 ++ (prt b 2 ++ (prt b 3 ++ []))), false) := by
    rw [show rSt (bs (imgB b 4)) 1 = (rPart (rSt (bs (imgB b 4)) 0)).2.2 from rfl, h0, rPart_prt _ _ _ (by omega) (hl _)]
  have h2 : rSt (bs (imgB b 4)) 2 = (bs (prt b 2 ++ (prt b 3 ++ [])), false) := by
    rw [show rSt (bs (imgB b 4)) 2 = (rPart (rSt (bs (imgB b 4)) 1)).2.2 from rfl, h1, rPart_prt _ _ _ (by omega) (hl _)]
  have h3 : rSt (bs (imgB b 4)) 3 = (bs (prt b 3 ++ []), false) := by
    rw [show rSt (bs (imgB b 4)) 3 = (rPart (rSt (bs (imgB b 4)) 2)).2.2 from rfl, h2, rPart_prt _ _ _ (by omega) (hl _)]
  refine ⟨h0, h1, h2, h3, ?_⟩
  rw [show rSt (bs (imgB b 4)) 4 = (rPart (rSt (bs (imgB b 4)) 3)).2.2 from rfl, h3, rPart_prt _ _ _ (by omega) (hl _)]
theorem rPart_img (b : Nat → List UInt8) (hl : ∀ k, (b k).length < 65536) (k : Nat) (hk : k < 4) : (rPart (rSt (bs (imgB b 4)) k)).1 = k ∧ rBody (bs (imgB b 4)) k = bs (b k) := by
  obtain ⟨h0, h1, h2, h3, _⟩ := rSt_img b hl
  unfold rBody
  rcases (show k = 0 ∨ k = 1 ∨ k = 2 ∨ k = 3 by omega) with rfl | rfl | rfl | rfl
  · rw [h0, rPart_prt _ _ _ (by omega) (hl _)]; exact ⟨rfl, rfl⟩
  · rw [h1, rPart_prt _ _ _ (by omega) (hl _)]; exact ⟨rfl, rfl⟩
  · rw [h2, rPart_prt _ _ _ (by omega) (hl _)]; exact ⟨rfl, rfl⟩
  · rw [h3, rPart_prt _ _ _ (by omega) (hl _)]; exact ⟨rfl, rfl⟩

theorem measures_back (n rate : Nat) (hn : n ≤ 2000) (hr1 : 1 ≤ rate) (hr : rate ≤ 64) : mOk (bs (num2 n ++ [UInt8.ofNat rate])) ∧ mSize (bs (num2 n ++ [UInt8.ofNat rate])) = n ∧ mRate (bs (num2 n ++ [UInt8.ofNat rate])) = rate := by
  have e := rNum_num2 n (by omega) [UInt8.ofNat rate]
  unfold mOk mSize mRate
  rw [e]
  simp only [rByte_bs, ofNat_toNat (show rate < 256 by omega)]
  exact ⟨⟨trivial, hn, hr1, hr⟩, trivial, trivial⟩

theorem side_many_back (s : ByteArray) (e : Nat) (he : e < 65536) : sOk (bs (num2 e ++ [1] ++ tx s)) s.size ∧ sText (bs (num2 e ++ [1] ++ tx s)) s.size = s ∧ sEnd (bs (num2 e ++ [1] ++ tx s)) = e := by
  have e1 := rNum_num2 e he (1 :: tx s)
  rw [show num2 e ++ [1] ++ tx s = num2 e ++ (1 :: tx s) from by simp]
  have h1 : sKind (bs (num2 e ++ (1 :: tx s))) = 1 := by unfold sKind; rw [e1]; simp only [rByte_bs]; rfl
  have h2 : sRd (bs (num2 e ++ (1 :: tx s))) = (bs (tx s), false) := by unfold sRd; rw [e1]; simp only [rByte_bs]
  have h3 := rTake_bs (tx s) []
  rw [List.append_nil, tx_length] at h3
  refine ⟨.inr ⟨h1, by rw [h2, h3]⟩, ?_, by unfold sEnd; rw [e1]⟩
  unfold sText
  rw [if_neg (by omega), h2, h3]
  exact bs_tx s
end Go.Proofs.Ytkebgnpifmcmaaa
