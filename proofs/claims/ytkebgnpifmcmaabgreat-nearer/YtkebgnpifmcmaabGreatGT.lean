import Derived.Test.YtkebgnpifmcmaabGreatGQ
import Derived.Test.YtkebgnpifmcmaabGreatGL
namespace Go.Proofs.YtkebgnpifmcmaabGreat
open Go.RowKit

set_option maxRecDepth 10000 in
set_option maxHeartbeats 400000 in
theorem keepSame_true (va vb : Value) (n : Nat) (F : Nat → Int) (w : World) (hn : n ≤ 3000) (ha : Lst w va n (II F)) (hb : Lst w vb n (II F)) :
    Calls Tryz.prog 20 #[va, vb] w fun e w' => e = .returned (.bool true) ∧ ∃ m, w' = w.drewN m := by
  obtain ⟨ao, capa, rfl, ha⟩ := ha
  obtain ⟨bo, capb, rfl, hb⟩ := hb
  have hnn : ((n : Int) != (n : Int)) = false := by simp
  go_enter Tryz.func20, Tryz.ntmps20
  go_wp2
  go_loopw [5] (fun i wr => ∃ k : Nat, k ≤ n ∧ i = .int .i64 (k : Int) ∧ ∃ m, wr = w.drewN m) (fun i _ => n - (intOf i).toNat)
  case atStart => exact ⟨0, Nat.zero_le _, rfl, 0, rfl⟩
  case round =>
    obtain ⟨k, hk, rfl, m, rfl⟩ := hrel
    by_cases hlt : k < n
    · obtain ⟨ga, rfl, hra⟩ := ha (by omega)
      obtain ⟨gb, rfl, hrb⟩ := hb (by omega)
      have hca := hra.cell hlt
      have hcb := hrb.cell hlt
      rw [II_at] at hca hcb
      have hff : (F k != F k) = false := by simp
      go_wp2
      go_quiet (fail)
      go_wp2
      go_roundw
      case rel => exact ⟨k + 1, by omega, by go_num, _, rfl⟩
      case measure => simp [intOf]; omega
    · go_wp2
      go_ret
      exact ⟨rfl, _, rfl⟩

/-- A text, cut. -/
def cut (s : ByteArray) (m : Nat) : ByteArray := if m < s.size then s.extract 0 m else s
theorem cut_le (s : ByteArray) (m : Nat) : (cut s m).size ≤ m := by
  unfold cut
  split
  · simp [ByteArray.size_extract]; omega
  · omega
theorem short_cut (s : ByteArray) (m : Nat) (w : World) (_hm : m ≤ 3000) (_hs : s.size ≤ maxLen) :
    Calls Tryz.prog 14 #[.string s, .int .i64 (m : Int)] w fun e w' => e = .returned (.string (cut s m)) ∧ w' = w := by
  unfold maxLen at _hs
  by_cases h : m < s.size
  · have hc : Hid (cut s m = s.extract 0 m) := if_pos h
    rw [hc.out]
    have d1 : (m : Int) < (s.size : Int) := by omega
    have hle : m ≤ s.size := by omega
    go_enter Tryz.func14, Tryz.ntmps14
    go_wp2
    go_ret
    exact ⟨rfl, rfl⟩
  · have hc : Hid (cut s m = s) := if_neg h
    rw [hc.out]
    have d1 : ¬ (m : Int) < (s.size : Int) := by omega
    go_enter Tryz.func14, Tryz.ntmps14
    go_wp2
    go_ret
    exact ⟨rfl, rfl⟩

set_option maxRecDepth 10000 in
set_option maxHeartbeats 1000000 in
theorem piece_any (s p : ByteArray) (x y : Int) (w : World) (hn : s.size ≤ 2000) (hp : p.size ≤ maxLen) (hx : (Lit.int .i64 x).wf = true) (hy : (Lit.int .i64 y).wf = true) :
    Calls Tryz.prog 16 #[.string s, .string p, .int .i64 x, .int .i64 y] w fun e w' => ∃ r : ByteArray, r.size ≤ 30 ∧ e = .returned (.string r) ∧ ∃ q, w' = w.drewN q := by
  have hie := isEmpty_size p
  have his := isEmpty_size s
  have HSP : Hid (∀ w, Calls Tryz.prog 14 #[.string p, .int .i64 30] w fun e w' => e = .returned (.string (cut p 30)) ∧ w' = w) := fun w => short_cut p 30 w (by decide) hp
  have hcl := cut_le p 30
  by_cases h0 : p.size = 0
  · rw [decide_eq_true h0] at hie
    by_cases h1 : s.size = 0
    · rw [decide_eq_true h1] at his
      clear h0 h1
      generalize cut p 30 = r at *
      go_enter Tryz.func16, Tryz.ntmps16
      go_wp2_with fail
      refine Calls.mono (HSP.out _) ?_
      rintro en w1 ⟨rfl, rfl⟩
      go_wp2
      go_ret
      exact ⟨r, hcl, rfl, 0, rfl⟩
    · rw [decide_eq_false h1] at his
      have hpos : 0 < s.size := by omega
      have hi1 := pickN_lt x hpos
      have hi2 := pickN_lt y (n := 30) (by decide)
      have HP1 : Hid _ := pick_any x s.size w hx hpos (by omega)
      have HP2 : Hid (∀ w, Calls Tryz.prog 17 #[.int .i64 y, .int .i64 30] w fun e w' => e = .returned (.int .i64 (pickN y 30 : Int)) ∧ w' = w) := fun w => pick_any y 30 w hy (by decide) (by decide)
      generalize pickN x s.size = i at *
      generalize pickN y 30 = m at *
      have hex : (s.extract i s.size).size ≤ s.size := by simp [ByteArray.size_extract]
      have HS : Hid (∀ w, Calls Tryz.prog 14 #[.string (s.extract i s.size), .int .i64 (1 + (m : Int))] w fun e w' => e = .returned (.string (cut (s.extract i s.size) (1 + m))) ∧ w' = w) := fun w => by
        have := short_cut (s.extract i s.size) (1 + m) w (by omega) (by unfold maxLen; omega)
        rw [Int.natCast_add] at this
        exact this
      have hcl2 := cut_le (s.extract i s.size) (1 + m)
      generalize cut (s.extract i s.size) (1 + m) = r at *
      have hii : (i : Int) ≤ (s.size : Int) := by omega
      have hle : i ≤ s.size := by omega
      clear HSP hcl h0 h1 hx hy hp
      go_enter Tryz.func16, Tryz.ntmps16
      go_wp2_with fail
      refine Calls.mono HP1.out ?_
      clear HP1
      rintro en w1 ⟨rfl, rfl⟩
      go_upto_region 4 with fail
      go_quiet (first | (go_at_call 17; exact Calls.quiet_of_same (HP2.out _)) | (go_at_call 14; exact Calls.quiet_of_same (HS.out _)))
      go_wp2
      go_ret
      exact ⟨r, by omega, rfl, _, rfl⟩
  · rw [decide_eq_false h0] at hie
    clear h0
    generalize cut p 30 = r at *
    go_enter Tryz.func16, Tryz.ntmps16
    go_wp2_with fail
    refine Calls.mono (HSP.out _) ?_
    rintro en w1 ⟨rfl, rfl⟩
    go_wp2
    go_ret
    exact ⟨r, hcl, rfl, 0, rfl⟩
end Go.Proofs.YtkebgnpifmcmaabGreat

namespace Go.Proofs.YtkebgnpifmcmaabGreat
open Go.RowKit

/-- What 'Count' and 'Locate' answer of an image that was made. -/
theorem count_img {im s : ByteArray} {rate : Nat} (hI : Img im s rate) (p : ByteArray) (w : World) (h0 : 0 < p.size) (h1 : p.size ≤ 30) :
    Calls Tryz.prog 35 #[.string im, .string p] w fun e w' => e = .returned (.tuple #[.int .i64 ((filt (stP (tx s) (tx p)) (s.size + 1)).length : Int), .int .i64 0]) ∧ Below w.heap.size w w' :=
  (count_any im p w (by unfold maxLen; omega)).mono (fun e w' hh => by
    rcases hh with ⟨⟨h, _⟩ | ⟨_, h, _⟩ | ⟨_, _, he⟩, hb⟩
    · exact absurd hI.1 h
    · exact absurd ⟨h0, h1⟩ h
    · rw [hI.2.1, tx_length] at he; exact ⟨he, hb⟩)
theorem locate_img {im s : ByteArray} {rate : Nat} (hI : Img im s rate) (p : ByteArray) (w : World) (h0 : 0 < p.size) (h1 : p.size ≤ 30) :
    Calls Tryz.prog 19 #[.string im, .string p] w fun e w' => ∃ v, e = .returned (.tuple #[v, .int .i64 0]) ∧ Lst w' v (filt (stP (tx s) (tx p)) (s.size + 1)).length (II fun j => ((filt (stP (tx s) (tx p)) (s.size + 1)).getD j 0 : Int)) ∧ Below w.heap.size w w' :=
  (locate_any im p w (by unfold maxLen; omega)).mono (fun e w' hh => by
    rcases hh with ⟨⟨h, _⟩ | ⟨_, h, _⟩ | ⟨_, _, v, he, ho⟩, hb⟩
    · exact absurd hI.1 h
    · exact absurd ⟨h0, h1⟩ h
    · rw [hI.2.1, tx_length] at ho; exact ⟨v, he, ho.lst, hb⟩)
theorem count_empty {im s : ByteArray} {rate : Nat} (hI : Img im s rate) (p : ByteArray) (w : World) (h0 : p.size = 0) :
    Calls Tryz.prog 35 #[.string im, .string p] w fun e w' => e = .returned (.tuple #[.int .i64 0, .int .i64 6]) ∧ Below w.heap.size w w' :=
  (count_any im p w (by unfold maxLen; omega)).mono (fun e w' hh => by
    rcases hh with ⟨⟨h, _⟩ | ⟨_, h, he⟩ | ⟨_, h, _⟩, hb⟩
    · exact absurd hI.1 h
    · rw [show patE p = 6 from if_pos h0] at he; exact ⟨he, hb⟩
    · omega)
theorem locate_empty {im s : ByteArray} {rate : Nat} (hI : Img im s rate) (p : ByteArray) (w : World) (h0 : p.size = 0) :
    Calls Tryz.prog 19 #[.string im, .string p] w fun e w' => e = .returned (.tuple #[.slice none 0 0, .int .i64 6]) ∧ Below w.heap.size w w' :=
  (locate_any im p w (by unfold maxLen; omega)).mono (fun e w' hh => by
    rcases hh with ⟨⟨h, _⟩ | ⟨_, h, he⟩ | ⟨_, h, _⟩, hb⟩
    · exact absurd hI.1 h
    · rw [show patE p = 6 from if_pos h0] at he; exact ⟨he, hb⟩
    · omega)

def sABA : ByteArray := { data := #[97, 98, 97] }
def sA : ByteArray := { data := #[97] }
theorem aba_places : filt (stP (tx sABA) (tx sA)) (sABA.size + 1) = [0, 2] := by decide

set_option maxRecDepth 10000 in
set_option maxHeartbeats 1000000 in
theorem finding_any (w : World) : Calls Tryz.prog 13 #[] w fun e w' => e = .returned (.bool true) ∧ Below w.heap.size w w' := by
  have HB : Hid _ := build_rd sABA 2 w (by decide) (by decide) (by decide)
  have HC : Hid (∀ im, Img im sABA 2 → ∀ w, Calls Tryz.prog 35 #[.string im, .string sA] w fun e w' => e = .returned (.tuple #[.int .i64 2, .int .i64 0]) ∧ Below w.heap.size w w') := fun im h w => by
    have := count_img h sA w (by decide) (by decide)
    rw [aba_places] at this
    exact this
  have HL : Hid (∀ im, Img im sABA 2 → ∀ w, Calls Tryz.prog 19 #[.string im, .string sA] w fun e w' => ∃ g cap, e = .returned (.tuple #[.slice (some ⟨g, 0, none⟩) 2 cap, .int .i64 0]) ∧ w'.cell? ⟨g, 0, none⟩ = some (.int .i64 0) ∧ w'.cell? ⟨g, 1, none⟩ = some (.int .i64 2) ∧ Below w.heap.size w w') := fun im h w => by
    have := locate_img h sA w (by decide) (by decide)
    rw [aba_places] at this
    refine this.mono ?_
    rintro e w' ⟨v, rfl, ⟨ao, cap, rfl, hh⟩, hb⟩
    obtain ⟨g, rfl, hr⟩ := hh (by decide)
    exact ⟨g, cap, rfl, hr.cell (j := 0) (by decide), hr.cell (j := 1) (by decide), hb⟩
  unfold sABA sA at *
  go_enter Tryz.func13, Tryz.ntmps13
  go_wp2_with fail
  refine Calls.mono HB.out ?_
  clear HB
  rintro en w1 ⟨im, hI, rfl, hb1⟩
  have HC1 : Hid _ := HC.out im hI
  have HL1 : Hid _ := HL.out im hI
  clear HC HL hI
  go_wp2_with fail
  refine Calls.mono (HC1.out w1) ?_
  clear HC1
  rintro en w2 ⟨rfl, hb2⟩
  have hb3 := hb1.trans (hb2.mono hb1.size)
  clear hb1 hb2
  go_wp2_with fail
  refine Calls.mono (HL1.out w2) ?_
  clear HL1
  rintro en w3 ⟨g, cap, rfl, hc0, hc1, hb4⟩
  have hb5 := hb3.trans (hb4.mono hb3.size)
  clear hb3 hb4
  go_wp2
  go_ret
  exact ⟨rfl, hb5⟩

/-- Images are alike just where texts and rates are. -/
theorem img_eq {a b s t : ByteArray} {r q : Nat} (ha : Img a s r) (hb : Img b t q) (w : World) : a = b ↔ (s = t ∧ r = q) := by
  constructor
  · rintro rfl
    have e1 : tx s = tx t := ha.2.1.symm.trans hb.2.1
    exact ⟨by rw [← bs_tx s, e1, bs_tx], ha.2.2.symm.trans hb.2.2⟩
  · rintro ⟨rfl, rfl⟩
    obtain ⟨i1, l1, _⟩ := reads_isImg ha.1 w
    obtain ⟨i2, _⟩ := reads_isImg hb.1 w
    have e1 : imT a = imT b := ha.2.1.trans hb.2.1.symm
    have e2 : imR a = imR b := ha.2.2.trans hb.2.2.symm
    have i1' : IsImg (imT a) (imR a) (tx a) := i1
    have i2' : IsImg (imT b) (imR b) (tx b) := i2
    rw [e1, e2] at i1'
    have := img_unique i1' i2' (by rw [← e1]; exact l1)
    rw [← bs_tx a, this, bs_tx]
end Go.Proofs.YtkebgnpifmcmaabGreat
