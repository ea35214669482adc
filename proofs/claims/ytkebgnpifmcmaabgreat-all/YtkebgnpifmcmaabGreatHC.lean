import Derived.Test.YtkebgnpifmcmaabGreatGA
import Derived.Test.YtkebgnpifmcmaabGreatGB
import Derived.Test.YtkebgnpifmcmaabGreatGY
import Derived.Test.YtkebgnpifmcmaabGreatGZ
namespace Go.Proofs.YtkebgnpifmcmaabGreat
open Go.RowKit

set_option maxRecDepth 10000 in
set_option maxHeartbeats 400000 in
theorem sorts_walk (a0 : ByteArray) (w0 : a0.size ≤ maxLen) (w : World) :
    Calls Tryz.prog 25 #[.string a0] w fun e w' => e = .returned (.bool true) ∧ Below w.heap.size w w' := by
  by_cases hn : a0.size ≤ 2000
  · go_enter Tryz.func25, Tryz.ntmps25
    go_wp2_with fail
    refine (suffixes_ok a0 _ hn).mono ?_
    rintro e w1 ⟨ga, capa, fa, rfl, _, _, _, hra, hb1, hsa⟩
    go_wp2_with fail
    refine (refSuffixes_ok a0 _ hn).mono ?_
    rintro e w2 ⟨gb, capb, fb, rfl, _, _, _, hrb, hb2, hsb⟩
    have heq := hsa.unique hsb
    rw [tx_length] at heq
    have hra2 : Row w2 ga 3 (a0.size + 1) (II (fun j => (fb j : Int))) := (hra.below hb2 hra.lt).congr (fun j hj => by simp only [IN, II, heq j (by omega)])
    have hsz := hb1.size
    have hb12 := hb1.trans (hb2.mono hsz)
    clear heq hsa hsb
    go_wp2_with fail
    refine (same_true _ _ (a0.size + 1) (fun j => (fb j : Int)) _ (by omega) ⟨_, _, rfl, fun _ => ⟨_, rfl, hra2⟩⟩ ⟨_, _, rfl, fun _ => ⟨_, rfl, hrb⟩⟩).mono ?_
    rintro e w3 ⟨rfl, m, rfl⟩
    go_wp2
    go_ret
    exact ⟨rfl, bdrewN hb12 m⟩
  · have hn' : 2000 < a0.size := by omega
    go_enter Tryz.func25, Tryz.ntmps25
    go_wp2_with fail
    refine (suffixes_long a0 _ w0 hn').mono ?_
    rintro e w1 ⟨rfl, rfl⟩
    go_wp2_with fail
    refine (refSuffixes_long a0 _ w0 hn').mono ?_
    rintro e w2 ⟨rfl, rfl⟩
    go_wp2_with fail
    refine (same_true _ _ 0 (fun _ => 0) _ (by omega) ⟨_, _, rfl, fun h => by omega⟩ ⟨_, _, rfl, fun h => by omega⟩).mono ?_
    rintro e w3 ⟨rfl, m, rfl⟩
    go_wp2
    go_ret
    exact ⟨rfl, bdrewN (Below.refl _ _) m⟩

end Go.Proofs.YtkebgnpifmcmaabGreat

namespace Go.Proofs.YtkebgnpifmcmaabGreat
open Go.RowKit

set_option maxRecDepth 10000 in
set_option maxHeartbeats 400000 in
theorem transforms_walk (a0 : ByteArray) (w0 : a0.size ≤ maxLen) (w : World) :
    Calls Tryz.prog 26 #[.string a0] w fun e w' => e = .returned (.bool true) ∧ Below w.heap.size w w' := by
  by_cases hn : a0.size ≤ 2000
  · go_enter Tryz.func26, Tryz.ntmps26
    go_wp2_with fail
    refine (transform_ok a0 _ hn).mono ?_
    rintro e w1 ⟨fa, hsa, rfl, hb1⟩
    go_wp2_with fail
    refine (refTransform_ok a0 _ hn).mono ?_
    rintro e w2 ⟨fb, hsb, rfl, hb2⟩
    have heq := hsa.unique hsb
    rw [tx_length] at heq
    have hpe := pre_congr (t := tx a0) (f := fa) (g := fb) (k := a0.size + 1) (fun j hj => heq j (by omega))
    rw [hpe.1, hpe.2]
    have hb12 := hb1.trans (hb2.mono hb1.size)
    clear heq hsa hsb hpe hb1 hb2
    generalize bs (pre (tx a0) fb (a0.size + 1)) = B
    generalize endOf fb (a0.size + 1) = E
    have q1 : (B.toList == B.toList) = true := by simp
    have q2 : ((E : Int) == (E : Int)) = true := by simp
    go_wp2
    go_ret
    exact ⟨rfl, hb12⟩
  · have hn' : 2000 < a0.size := by omega
    go_enter Tryz.func26, Tryz.ntmps26
    go_wp2_with fail
    refine (transform_long a0 _ w0 hn').mono ?_
    rintro e w1 ⟨rfl, rfl⟩
    go_wp2_with fail
    refine (refTransform_long a0 _ w0 hn').mono ?_
    rintro e w2 ⟨rfl, rfl⟩
    go_wp2
    go_ret
    exact ⟨rfl, Below.refl _ _⟩

end Go.Proofs.YtkebgnpifmcmaabGreat

namespace Go.Proofs.YtkebgnpifmcmaabGreat
open Go.RowKit

set_option maxRecDepth 10000 in
set_option maxHeartbeats 400000 in
theorem restores_walk (a0 : ByteArray) (a1 : Int) (w0 : a0.size ≤ maxLen) (_w1 : (Lit.int .i64 a1).wf = true) (w : World) :
    Calls Tryz.prog 27 #[.string a0, .int .i64 a1] w fun e w' => e = .returned (.bool true) ∧ Below w.heap.size w w' := by
  by_cases hn : a0.size ≤ 2000
  · by_cases hx : a1 < 0 ∨ (a0.size : Int) < a1
    · have HX : Hid (a1 < 0 ∨ (a0.size : Int) < a1) := hx
      clear hx
      go_enter Tryz.func27, Tryz.ntmps27
      go_wp2_with fail
      refine (restore_out a0 a1 _ hn HX.out).mono ?_
      rintro e w1 ⟨rfl, rfl⟩
      go_wp2_with fail
      refine (refRestore_out a0 a1 _ hn HX.out).mono ?_
      rintro e w2 ⟨rfl, rfl⟩
      go_wp2
      go_ret
      exact ⟨rfl, Below.refl _ _⟩
    · obtain ⟨k, rfl⟩ := Int.eq_ofNat_of_zero_le (show 0 ≤ a1 by omega)
      have he : k ≤ a0.size := by omega
      clear hx
      go_enter Tryz.func27, Tryz.ntmps27
      go_wp2_with fail
      refine (restore_in a0 k _ hn he).mono ?_
      rintro e w1 ⟨h1, hb1⟩
      have HH := show Hid _ from h1
      clear h1
      rcases HH.out with ⟨hok, rfl⟩ | ⟨hok, rfl⟩
      · have HX : Hid (okBack (tx a0) k) := hok
        clear HH hok
        go_wp2_with fail
        refine (refRestore_in a0 k _ hn he).mono ?_
        rintro e w2 ⟨⟨_, rfl⟩ | ⟨hno, _⟩, hb2⟩
        · have hbb := hb1.trans (hb2.mono hb1.size)
          clear hb1 hb2
          go_wp2
          go_ret
          exact ⟨rfl, hbb⟩
        · exact absurd HX.out hno
      · have HX : Hid (¬ okBack (tx a0) k) := hok
        clear HH hok
        go_wp2_with fail
        refine (refRestore_in a0 k _ hn he).mono ?_
        rintro e w2 ⟨⟨hno, _⟩ | ⟨_, rfl⟩, hb2⟩
        · exact absurd hno HX.out
        · have hbb := hb1.trans (hb2.mono hb1.size)
          clear hb1 hb2
          go_wp2
          go_ret
          exact ⟨rfl, hbb⟩
  · have hn' : 2000 < a0.size := by omega
    go_enter Tryz.func27, Tryz.ntmps27
    go_wp2_with fail
    refine (restore_long a0 a1 _ w0 hn').mono ?_
    rintro e w1 ⟨rfl, rfl⟩
    go_wp2_with fail
    refine (refRestore_long a0 a1 _ w0 hn').mono ?_
    rintro e w2 ⟨rfl, rfl⟩
    go_wp2
    go_ret
    exact ⟨rfl, Below.refl _ _⟩

end Go.Proofs.YtkebgnpifmcmaabGreat

namespace Go.Proofs.YtkebgnpifmcmaabGreat
open Go.RowKit

set_option maxRecDepth 10000 in
set_option maxHeartbeats 1000000 in
theorem exact_no (im s p : ByteArray) (w : World) (hR : ¬ Reads im) (hp : p.size ≤ maxLen) :
    Calls Tryz.prog 52 #[.string im, .string s, .bool false, .string p] w fun e w' => e = .returned (.bool true) ∧ Below w.heap.size w w' := by
  have HC : Hid (∀ w, Calls Tryz.prog 35 #[.string im, .string p] w fun e w' => e = .returned (.tuple #[.int .i64 0, .int .i64 4]) ∧ Below w.heap.size w w') := fun w => (count_any im p w hp).mono (fun e w' hh => by
    rcases hh with ⟨⟨_, he⟩ | ⟨h, _⟩ | ⟨h, _⟩, hb⟩
    · exact ⟨he, hb⟩
    · exact absurd h hR
    · exact absurd h hR)
  have HL : Hid (∀ w, Calls Tryz.prog 19 #[.string im, .string p] w fun e w' => e = .returned (.tuple #[.slice none 0 0, .int .i64 4]) ∧ Below w.heap.size w w') := fun w => (locate_any im p w hp).mono (fun e w' hh => by
    rcases hh with ⟨⟨_, he⟩ | ⟨h, _⟩ | ⟨h, _⟩, hb⟩
    · exact ⟨he, hb⟩
    · exact absurd h hR
    · exact absurd h hR)
  clear hR hp
  go_enter Tryz.func52, Tryz.ntmps52
  go_wp2_with fail
  refine Calls.mono (HC.out _) ?_
  clear HC
  rintro en w1 ⟨rfl, hb1⟩
  go_wp2_with fail
  refine Calls.mono (HL.out w1) ?_
  clear HL
  rintro en w2 ⟨rfl, hb2⟩
  go_wp2
  go_ret
  exact ⟨rfl, hb1.trans (hb2.mono hb1.size)⟩

set_option maxRecDepth 10000 in
set_option maxHeartbeats 1000000 in
theorem wrong_no (im s p : ByteArray) (kk : Int) (w : World) (hR : ¬ Reads im) (hp : p.size ≤ maxLen) :
    Calls Tryz.prog 10 #[.string im, .string s, .bool false, .string p, .int .i64 kk] w fun e w' => e = .returned (.bool true) ∧ Below w.heap.size w w' := by
  have HL : Hid (∀ w, Calls Tryz.prog 18 #[.string im, .string p, .int .i64 kk] w fun e w' => e = .returned (.tuple #[.slice none 0 0, .int .i64 4]) ∧ Below w.heap.size w w') := fun w => (wrong_any im p kk w hp).mono (fun e w' hh => by
    rcases hh with ⟨⟨_, he⟩ | ⟨h, _⟩ | ⟨h, _⟩ | ⟨h, _⟩, hb⟩
    · exact ⟨he, hb⟩
    · exact absurd h hR
    · exact absurd h hR
    · exact absurd h hR)
  clear hR hp
  go_enter Tryz.func10, Tryz.ntmps10
  go_wp2_with fail
  refine Calls.mono (HL.out _) ?_
  clear HL
  rintro en w2 ⟨rfl, hb2⟩
  go_wp2
  go_ret
  exact ⟨rfl, hb2⟩

set_option maxRecDepth 10000 in
set_option maxHeartbeats 1000000 in
theorem edited_no (im s p : ByteArray) (kk : Int) (w : World) (hR : ¬ Reads im) (hp : p.size ≤ maxLen) :
    Calls Tryz.prog 11 #[.string im, .string s, .bool false, .string p, .int .i64 kk] w fun e w' => e = .returned (.bool true) ∧ Below w.heap.size w w' := by
  have HL : Hid (∀ w, Calls Tryz.prog 22 #[.string im, .string p, .int .i64 kk] w fun e w' => e = .returned (.tuple #[.slice none 0 0, .int .i64 4]) ∧ Below w.heap.size w w') := fun w => (edits_any im p kk w hp).mono (fun e w' hh => by
    rcases hh with ⟨⟨_, he⟩ | ⟨h, _⟩ | ⟨h, _⟩ | ⟨h, _⟩, hb⟩
    · exact ⟨he, hb⟩
    · exact absurd h hR
    · exact absurd h hR
    · exact absurd h hR)
  clear hR hp
  go_enter Tryz.func11, Tryz.ntmps11
  go_wp2_with fail
  refine Calls.mono (HL.out _) ?_
  clear HL
  rintro en w2 ⟨rfl, hb2⟩
  go_wp2
  go_ret
  exact ⟨rfl, hb2⟩

set_option maxRecDepth 10000 in
set_option maxHeartbeats 1000000 in
theorem every_any (im : ByteArray) (lo hi bk c row : Int) (p : ByteArray) (kk : Int) (w : World) (hp : p.size ≤ maxLen) :
    Calls Tryz.prog 29 #[.string im, .agg #[.int .i64 lo, .int .i64 hi, .int .i64 bk], .int .i64 c, .int .i64 row, .string p, .int .i64 kk] w fun e w' => e = .returned (.bool true) ∧ Below w.heap.size w w' := by
  have hb0 : Below w.heap.size w (w.alloc (.cells #[.int .i64 lo, .int .i64 hi, .int .i64 bk] 47)) := (Below.refl _ _).alloc (Nat.le_refl _) _
  have k0 := Blk.new w 47 #[.int .i64 lo, .int .i64 hi, .int .i64 bk]
  have HM : Hid _ := told_any im (w.alloc (.cells #[.int .i64 lo, .int .i64 hi, .int .i64 bk] 47))
  go_enter Tryz.func29, Tryz.ntmps29
  go_wp2_with fail
  refine Calls.mono HM.out ?_
  clear HM
  rintro en w2 ⟨hres, hb1⟩
  have hk1 := k0.below hb1 k0.lt
  have hb2 := hb0.trans (hb1.mono hb0.size)
  clear k0 hb0 hb1
  have p0 : w2.cell? ⟨w.heap.size, 0, none⟩ = some (.int .i64 lo) := hk1.cell 0
  have p1 : w2.cell? ⟨w.heap.size, 1, none⟩ = some (.int .i64 hi) := hk1.cell 1
  have p2 : w2.cell? ⟨w.heap.size, 2, none⟩ = some (.int .i64 bk) := hk1.cell 2
  rcases hres with ⟨hR, rfl⟩ | ⟨hR, rfl⟩
  · skip
    have HC : Hid _ := ranked_yes im (bs (imT im)) lo hi bk c row w2 hR (by rw [tx_bs])
    have HX : Hid (∀ w, Calls Tryz.prog 52 #[.string im, .string (bs (imT im)), .bool true, .string p] w fun e w' => e = .returned (.bool true) ∧ Below w.heap.size w w') := fun w => exact_yes im (bs (imT im)) p w hR (by rw [tx_bs]) hp
    have HW : Hid (∀ w, Calls Tryz.prog 10 #[.string im, .string (bs (imT im)), .bool true, .string p, .int .i64 kk] w fun e w' => e = .returned (.bool true) ∧ Below w.heap.size w w') := fun w => wrong_yes im (bs (imT im)) p kk w hR (by rw [tx_bs]) hp
    have HE : Hid (∀ w, Calls Tryz.prog 11 #[.string im, .string (bs (imT im)), .bool true, .string p, .int .i64 kk] w fun e w' => e = .returned (.bool true) ∧ Below w.heap.size w w') := fun w => edited_yes im (bs (imT im)) p kk w hR (by rw [tx_bs]) hp
    clear hR
    go_wp2_with fail
    refine Calls.mono HC.out ?_
    clear HC
    rintro en w3 ⟨rfl, hb3⟩
    have hb4 := hb2.trans (hb3.mono hb2.size)
    clear hb2 hb3
    go_wp2_with fail
    refine Calls.mono (HX.out w3) ?_
    clear HX
    rintro en w4 ⟨rfl, hb5⟩
    have hb6 := hb4.trans (hb5.mono hb4.size)
    clear hb4 hb5
    go_wp2_with fail
    refine Calls.mono (HW.out w4) ?_
    clear HW
    rintro en w5 ⟨rfl, hb7⟩
    have hb8 := hb6.trans (hb7.mono hb6.size)
    clear hb6 hb7
    go_wp2_with fail
    refine Calls.mono (HE.out w5) ?_
    clear HE
    rintro en w6 ⟨rfl, hb9⟩
    have hb10 := hb8.trans (hb9.mono hb8.size)
    clear hb8 hb9
    go_wp2
    go_ret
    exact ⟨rfl, hb10⟩
  · skip
    have HC : Hid _ := ranked_no im { data := #[] } lo hi bk c row w2 hR
    have HX : Hid (∀ w, Calls Tryz.prog 52 #[.string im, .string { data := #[] }, .bool false, .string p] w fun e w' => e = .returned (.bool true) ∧ Below w.heap.size w w') := fun w => exact_no im { data := #[] } p w hR hp
    have HW : Hid (∀ w, Calls Tryz.prog 10 #[.string im, .string { data := #[] }, .bool false, .string p, .int .i64 kk] w fun e w' => e = .returned (.bool true) ∧ Below w.heap.size w w') := fun w => wrong_no im { data := #[] } p kk w hR hp
    have HE : Hid (∀ w, Calls Tryz.prog 11 #[.string im, .string { data := #[] }, .bool false, .string p, .int .i64 kk] w fun e w' => e = .returned (.bool true) ∧ Below w.heap.size w w') := fun w => edited_no im { data := #[] } p kk w hR hp
    clear hR
    go_wp2_with fail
    refine Calls.mono HC.out ?_
    clear HC
    rintro en w3 ⟨rfl, hb3⟩
    have hb4 := hb2.trans (hb3.mono hb2.size)
    clear hb2 hb3
    go_wp2_with fail
    refine Calls.mono (HX.out w3) ?_
    clear HX
    rintro en w4 ⟨rfl, hb5⟩
    have hb6 := hb4.trans (hb5.mono hb4.size)
    clear hb4 hb5
    go_wp2_with fail
    refine Calls.mono (HW.out w4) ?_
    clear HW
    rintro en w5 ⟨rfl, hb7⟩
    have hb8 := hb6.trans (hb7.mono hb6.size)
    clear hb6 hb7
    go_wp2_with fail
    refine Calls.mono (HE.out w5) ?_
    clear HE
    rintro en w6 ⟨rfl, hb9⟩
    have hb10 := hb8.trans (hb9.mono hb8.size)
    clear hb8 hb9
    go_wp2
    go_ret
    exact ⟨rfl, hb10⟩
end Go.Proofs.YtkebgnpifmcmaabGreat
