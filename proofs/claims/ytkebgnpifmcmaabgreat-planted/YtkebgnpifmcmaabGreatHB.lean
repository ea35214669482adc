import Derived.Test.YtkebgnpifmcmaabGreatHA
namespace Go.Proofs.YtkebgnpifmcmaabGreat
open Go.RowKit

theorem cell_later' {w w' : World} {a : Addr} {v : Value} (h : w.cell? a = some v) (hb : Below w.heap.size w w') : w'.cell? a = some v := by
  have hlt : a.block < w.heap.size := World.block_lt_of_cell? w a h
  rw [← h]
  simp only [World.cell?, hb.block a.block hlt]
/-- One cell, just made, as a row of the call's own. -/
theorem own_one (w : World) (x : UInt8) : (w.alloc (.cells #[.int .u8 (x.toNat : Int)] 5)).ownsRow w.heap.size 5 1 (.slice (some ⟨w.heap.size, 0, none⟩) 1 1) [x].length (BL [x]) :=
  ⟨by simp [BL], .inr ⟨w.heap.size, 1, #[.int .u8 (x.toNat : Int)], rfl, Nat.le_refl _, heap_alloc_new w _, Nat.le_refl _, by decide, rfl, by simp [BL]⟩⟩

theorem wf_mk {x : Int} (h1 : -9223372036854775808 ≤ x) (h2 : x ≤ 9223372036854775807) : (Lit.int .i64 x).wf = true := by
  simp only [Lit.wf, IntKind.min, IntKind.max, IntKind.signed, IntKind.bits, Bool.and_eq_true, decide_eq_true_eq, if_true]
  omega
theorem wf_tdiv {x : Int} (n : Nat) (hn : 0 < n) (h : (Lit.int .i64 x).wf = true) : (Lit.int .i64 (x.tdiv n)).wf = true := by
  obtain ⟨h1, h2⟩ := wf_bounds h
  rcases Int.lt_or_le x 0 with h3 | h3
  · obtain ⟨y, rfl⟩ : ∃ y : Int, x = -y := ⟨-x, by omega⟩
    have h4 : 0 ≤ y := by omega
    rw [Int.neg_tdiv, Int.tdiv_eq_ediv_of_nonneg h4]
    have h5 : y / (n : Int) ≤ y := Int.ediv_le_self _ h4
    have h6 : 0 ≤ y / (n : Int) := Int.ediv_nonneg h4 (by omega)
    exact wf_mk (by omega) (by omega)
  · rw [Int.tdiv_eq_ediv_of_nonneg h3]
    have h5 : x / (n : Int) ≤ x := Int.ediv_le_self _ h3
    have h6 : 0 ≤ x / (n : Int) := Int.ediv_nonneg h3 (by omega)
    exact wf_mk (by omega) (by omega)

set_option maxRecDepth 10000 in
set_option maxHeartbeats 4000000 in
theorem bent_any (s : ByteArray) (k : Nat) (ao : Option Addr) (len cap : Nat) (zs : Nat → Int) (wrong : Bool) (w : World) (hs : s.size ≤ 30) (hk : k ≤ 4) (_hlen : len ≤ maxLen)
    (hao : ao = none → len = 0) (hcell : ∀ a, ao = some a → ∀ i, i < len → w.cell? (a.add i) = some (.int .i64 (zs i))) (hzw : ∀ i, i < len → (Lit.int .i64 (zs i)).wf = true)
    (Rel : Nat → ByteArray → Prop) (h0 : Rel 0 s)
    (hput : ∀ i (r : ByteArray) (at_ : Nat) (x : UInt8), at_ < r.size → r.size ≤ 34 → Rel i r → Rel (i + 1) (r.extract 0 at_ ++ bs [x] ++ r.extract (at_ + 1) r.size))
    (hins : wrong = false → ∀ i (r : ByteArray) (at_ : Nat) (x : UInt8), at_ < r.size → r.size ≤ 34 → Rel i r → Rel (i + 1) (r.extract 0 at_ ++ bs [x] ++ r.extract at_ r.size))
    (hdel : wrong = false → ∀ i (r : ByteArray) (at_ : Nat), at_ < r.size → r.size ≤ 34 → Rel i r → Rel (i + 1) (r.extract 0 at_ ++ r.extract (at_ + 1) r.size))
    (hmono : ∀ i r, Rel i r → Rel (i + 1) r) :
    Calls Tryz.prog 23 #[.string s, .int .i64 (k : Int), .slice ao len cap, .bool wrong] w fun e w' => (∃ r : ByteArray, e = .returned (.string r) ∧ Rel k r ∧ r.size ≤ 34) ∧ Below w.heap.size w w' := by
  have HAO : Hid (ao = none → len = 0) := hao
  have HCELL : Hid (∀ a, ao = some a → ∀ i, i < len → w.cell? (a.add i) = some (.int .i64 (zs i))) := hcell
  have HZW : Hid (∀ i, i < len → (Lit.int .i64 (zs i)).wf = true) := hzw
  have HPUT : Hid (∀ i (r : ByteArray) (at_ : Nat) (x : UInt8), at_ < r.size → r.size ≤ 34 → Rel i r → Rel (i + 1) (r.extract 0 at_ ++ bs [x] ++ r.extract (at_ + 1) r.size)) := hput
  have HINS : Hid (wrong = false → ∀ i (r : ByteArray) (at_ : Nat) (x : UInt8), at_ < r.size → r.size ≤ 34 → Rel i r → Rel (i + 1) (r.extract 0 at_ ++ bs [x] ++ r.extract at_ r.size)) := hins
  have HDEL : Hid (wrong = false → ∀ i (r : ByteArray) (at_ : Nat), at_ < r.size → r.size ≤ 34 → Rel i r → Rel (i + 1) (r.extract 0 at_ ++ r.extract (at_ + 1) r.size)) := hdel
  have HMO : Hid (∀ i j r, i ≤ j → Rel i r → Rel j r) := fun i j r hij h => by
    induction j with
    | zero => obtain rfl : i = 0 := by omega
              exact h
    | succ j ih =>
      by_cases e : i = j + 1
      · rw [← e]; exact h
      · exact hmono _ _ (ih (by omega))
  unfold maxLen at _hlen
  clear hao hcell hzw hput hins hdel hmono
  go_enter Tryz.func23, Tryz.ntmps23
  go_wp2_with fail
  go_loopw [9, 0, 10, 11, 53, 73] (fun iv sv _ _ _ _ wr => ∃ (i : Nat) (r : ByteArray), i ≤ k ∧ iv = .int .i64 (i : Int) ∧ sv = .string r ∧ r.size ≤ 30 + i ∧ Hid (Rel i r) ∧ Below w.heap.size w wr) (fun iv _ _ _ _ _ _ => k - (intOf iv).toNat)
  case atStart => exact ⟨0, s, Nat.zero_le _, rfl, rfl, by omega, h0, Below.refl _ _⟩
  case round =>
    obtain ⟨i, r, hi, rfl, rfl, hr, HR, hb⟩ := hrel
    by_cases hlt : i < k ∧ i < len ∧ 0 < r.size
    · obtain ⟨h1, h2, h3⟩ := hlt
      obtain ⟨ad, rfl⟩ : ∃ ad, ao = some ad := by
        cases ao with
        | none => have := HAO.out rfl; omega
        | some ad => exact ⟨ad, rfl⟩
      have hza : wr.cell? (ad.add i) = some (.int .i64 (zs i)) := cell_later' (HCELL.out ad rfl i h2) hb
      have hzb := wf_bounds (HZW.out i h2)
      have d1 : decide ((i : Int) < (k : Int)) = true := by simp only [decide_eq_true_eq]; omega
      have d2 : decide ((i : Int) < (len : Int)) = true := by simp only [decide_eq_true_eq]; omega
      have HP1 : Hid (∀ w, Calls Tryz.prog 17 #[.int .i64 ((zs i).tdiv 3), .int .i64 (r.size : Int)] w fun e w' => e = .returned (.int .i64 (pickN ((zs i).tdiv 3) r.size : Int)) ∧ w' = w) := fun w => pick_any _ r.size w (wf_tdiv 3 (by decide) (HZW.out i h2)) h3 (by omega)
      have l2 := pickN_lt ((zs i).tdiv 7) (n := 256) (by decide)
      obtain ⟨xx, hxx⟩ : ∃ xx : UInt8, xx.toNat = pickN ((zs i).tdiv 7) 256 := ⟨UInt8.ofNat (pickN ((zs i).tdiv 7) 256), ofNat_toNat l2⟩
      have HP2 : Hid (∀ w, Calls Tryz.prog 17 #[.int .i64 ((zs i).tdiv 7), .int .i64 256] w fun e w' => e = .returned (.int .i64 (xx.toNat : Int)) ∧ w' = w) := fun w => by
        rw [hxx]
        exact pick_any _ 256 w (wf_tdiv 7 (by decide) (HZW.out i h2)) (by decide) (by decide)
      have hxl := xx.toNat_lt
      have hwx : IntKind.u8.wrap (xx.toNat : Int) = (xx.toNat : Int) := by simp [IntKind.wrap, IntKind.bits, IntKind.signed]; omega
      have hcv : ∀ W : World, (convert 75 9 (.slice (some ⟨W.heap.size, 0, none⟩) 1 1)).run Tryz.prog (W.alloc (.cells #[.int .u8 (xx.toNat : Int)] 5)) = .ok (.string (bs [xx])) (W.alloc (.cells #[.int .u8 (xx.toNat : Int)] 5)) := fun W => conv_own (own_one W xx)
      clear hxx l2
      have HP3 : Hid (∀ w, Calls Tryz.prog 17 #[.int .i64 (zs i), .int .i64 3] w fun e w' => e = .returned (.int .i64 (pickN (zs i) 3 : Int)) ∧ w' = w) := fun w => pick_any _ 3 w (HZW.out i h2) (by decide) (by decide)
      have l1 := pickN_lt ((zs i).tdiv 3) h3
      have l3 := pickN_lt (zs i) (n := 3) (by decide)
      have hc1 : ∀ o, (wr.alloc o).cell? (ad.add i) = some (.int .i64 (zs i)) := fun o => cell_later' hza ((Below.refl _ _).alloc (Nat.le_refl _) o)
      have hbA := hb.alloc hb.size (.cells #[.int .u8 (xx.toNat : Int)] 5)
      generalize pickN ((zs i).tdiv 3) r.size = A at *
      generalize pickN (zs i) 3 = T at *
      go_wp2_with fail
      refine Calls.mono (HP1.out wr) ?_
      clear HP1
      rintro en wa ⟨rfl, rfl⟩
      go_wp2_with fail
      refine Calls.mono (HP2.out _) ?_
      clear HP2
      rintro en wa2 ⟨rfl, rfl⟩
      have hAI : (A : Int) < (r.size : Int) := by omega
      have hAI2 : (A : Int) + 1 ≤ (r.size : Int) := by omega
      have hAI3 : (A : Int) ≤ (r.size : Int) := by omega
      have hAI0 : (0 : Int) ≤ (A : Int) := by omega
      have HNP : Hid (Rel (i + 1) (r.extract 0 A ++ bs [xx] ++ r.extract (A + 1) r.size)) := HPUT.out i r A xx l1 (by omega) HR.out
      have HNI : Hid (wrong = false → Rel (i + 1) (r.extract 0 A ++ bs [xx] ++ r.extract A r.size)) := fun h => HINS.out h i r A xx l1 (by omega) HR.out
      have HND : Hid (wrong = false → Rel (i + 1) (r.extract 0 A ++ r.extract (A + 1) r.size)) := fun h => HDEL.out h i r A l1 (by omega) HR.out
      have hcs : (bs [xx]).size = 1 := rfl
      clear HPUT HINS HDEL HR
      generalize bs [xx] = cx at *
      have z1 : (r.extract 0 A ++ cx ++ r.extract (A + 1) r.size).size ≤ 30 + (i + 1) := by simp [ByteArray.size_append, ByteArray.size_extract]; omega
      have z2 : (r.extract 0 A ++ cx ++ r.extract A r.size).size ≤ 30 + (i + 1) := by simp [ByteArray.size_append, ByteArray.size_extract]; omega
      have z3 : (r.extract 0 A ++ r.extract (A + 1) r.size).size ≤ 30 + (i + 1) := by simp [ByteArray.size_append, ByteArray.size_extract]; omega
      have Z1 : Hid _ := z1
      have Z2 : Hid _ := z2
      have Z3 : Hid _ := z3
      clear z1 z2 z3
      cases wrong with
      | true =>
        clear HP3 HNI HND
        go_wp2_with fail
        generalize wa2.alloc (.cells #[.int .u8 (xx.toNat : Int)] 5) = Wb at *
        go_quiet (fail)
        go_wp2
        go_roundw
        case rel => exact ⟨i + 1, _, by omega, by go_num, rfl, Z1.out, HNP.out, below_drewN hbA _⟩
        case measure => simp [intOf]; omega
      | false =>
        have HNI1 : Hid (Rel (i + 1) (r.extract 0 A ++ cx ++ r.extract A r.size)) := HNI.out rfl
        have HND1 : Hid (Rel (i + 1) (r.extract 0 A ++ r.extract (A + 1) r.size)) := HND.out rfl
        clear HNI HND
        have hcB : (wa2.alloc (.cells #[.int .u8 (xx.toNat : Int)] 5)).cell? (ad.add i) = some (.int .i64 (zs i)) := hc1 _
        go_wp2_with fail
        refine Calls.mono (HP3.out _) ?_
        rintro en wa3 ⟨rfl, rfl⟩
        generalize wa2.alloc (.cells #[.int .u8 (xx.toNat : Int)] 5) = Wb at *
        obtain rfl | rfl | rfl : T = 0 ∨ T = 1 ∨ T = 2 := by omega
        · clear HP3
          go_wp2_with fail
          go_quiet (fail)
          go_wp2
          go_roundw
          case rel => exact ⟨i + 1, _, by omega, by go_num, rfl, Z1.out, HNP.out, below_drewN hbA _⟩
          case measure => simp [intOf]; omega
        · go_wp2_with fail
          refine Calls.mono (HP3.out _) ?_
          clear HP3
          rintro en wa4 ⟨rfl, rfl⟩
          go_wp2_with fail
          go_quiet (fail)
          go_wp2
          go_roundw
          case rel => exact ⟨i + 1, _, by omega, by go_num, rfl, Z2.out, HNI1.out, below_drewN hbA _⟩
          case measure => simp [intOf]; omega
        · go_wp2_with fail
          refine Calls.mono (HP3.out _) ?_
          clear HP3
          rintro en wa4 ⟨rfl, rfl⟩
          go_wp2_with fail
          go_quiet (fail)
          go_wp2
          go_roundw
          case rel => exact ⟨i + 1, _, by omega, by go_num, rfl, Z3.out, HND1.out, below_drewN hbA _⟩
          case measure => simp [intOf]; omega
    · have HE : Hid (Rel k r) := HMO.out i k r hi HR.out
      by_cases h1 : i < k
      · have d1 : decide ((i : Int) < (k : Int)) = true := by simp only [decide_eq_true_eq]; omega
        by_cases h2 : i < len
        · have d2 : decide ((i : Int) < (len : Int)) = true := by simp only [decide_eq_true_eq]; omega
          have d3 : r.size = 0 := by omega
          go_wp2
          go_ret
          exact ⟨⟨r, rfl, HE.out, by omega⟩, hb⟩
        · have d2 : decide ((i : Int) < (len : Int)) = false := by simp only [decide_eq_false_iff_not]; omega
          go_wp2
          go_ret
          exact ⟨⟨r, rfl, HE.out, by omega⟩, hb⟩
      · have d1 : decide ((i : Int) < (k : Int)) = false := by simp only [decide_eq_false_iff_not]; omega
        go_wp2
        go_ret
        exact ⟨⟨r, rfl, HE.out, by omega⟩, hb⟩
end Go.Proofs.YtkebgnpifmcmaabGreat
