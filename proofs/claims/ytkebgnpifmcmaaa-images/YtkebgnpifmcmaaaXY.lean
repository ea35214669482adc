import Derived.Test.YtkebgnpifmcmaaaXX
namespace Go.Proofs.Ytkebgnpifmcmaaa
open Go.RowKit

theorem rTake_short (r : ByteArray × Bool) (c : Nat) (h : r.2 = true) : (rTake r c).2.2 = true := by
  unfold rTake; rw [if_pos (.inl h)]
theorem fSt_short (r : ByteArray × Bool) (n k j : Nat) (h : (fSt r n k).2 = true) : (fSt r n (k + j)).2 = true := by
  induction j with
  | zero => exact h
  | succ j ih => exact rTake_short _ _ ih

/-- What a side's bytes say. -/
def sEnd (b : ByteArray) : Nat := (rNum (b, false)).1
def sKind (b : ByteArray) : Nat := (rByte (rNum (b, false)).2).1
def sRd (b : ByteArray) : ByteArray × Bool := (rByte (rNum (b, false)).2).2
def sOk (b : ByteArray) (n : Nat) : Prop := (sKind b = 0 ∧ (fSt (sRd b) n (fLet (sRd b)).size).2 = false) ∨ (sKind b = 1 ∧ (rTake (sRd b) n).2.2 = false)
def sText (b : ByteArray) (n : Nat) : ByteArray := if sKind b = 0 then bs (fText (sRd b) n) else (rTake (sRd b) n).1

/-- The end of readSide: the answer is copied and told. -/
def SideRes (b : ByteArray) (n : Nat) (w : World) (e : Ending) (w' : World) : Prop := ((sOk b n ∧ e = .returned (.tuple #[.agg #[.string (sText b n), .int .i64 (sEnd b : Int)], .bool true])) ∨ (¬ sOk b n ∧ ∃ S, e = .returned (.tuple #[.agg #[.string S, .int .i64 (sEnd b : Int)], .bool false]))) ∧ Below w.heap.size w w'

set_option maxRecDepth 10000 in
set_option maxHeartbeats 1000000 in
theorem readSide_any (b : ByteArray) (n : Nat) (w : World) (hn : n ≤ 2000) : Calls Try.prog 65 #[.string b, .int .i64 (n : Int)] w (SideRes b n w) := by
  obtain ⟨G, hG⟩ : ∃ G, G = w.heap.size := ⟨_, rfl⟩
  have k0 := (Blk.new w 92 #[.string { data := #[] }, .int .i64 0]).alloc (.cells #[.string b, .bool false] 124)
  have k1 := Blk.new (w.alloc (.cells #[.string { data := #[] }, .int .i64 0] 92)) 124 #[.string b, .bool false]
  have hb0 : Below w.heap.size w ((w.alloc (.cells #[.string { data := #[] }, .int .i64 0] 92)).alloc (.cells #[.string b, .bool false] 124)) := ((Below.refl _ _).alloc (Nat.le_refl _) _).alloc (by simp) _
  rw [show (w.alloc (.cells #[.string { data := #[] }, .int .i64 0] 92)).heap.size = w.heap.size + 1 from by simp] at k1
  go_enter Try.func65, Try.ntmps65
  go_wp2_with fail
  generalize (w.alloc (.cells #[.string { data := #[] }, .int .i64 0] 92)).alloc (.cells #[.string b, .bool false] 124) = W0 at *
  rw [← hG] at k0 k1 hb0 ⊢
  have HG : Hid (G = w.heap.size) := hG
  clear hG
  have HNC : Hid _ := number_any (G + 1) (b, false) W0 k1
  have hl1 := rNum_lt (b, false)
  have hk1l := k1.lt
  refine Calls.mono HNC.out ?_
  clear HNC
  rintro en w1 ⟨rfl, hR1, hO1⟩
  have k01 := k0.only hO1 (by omega)
  have hb1 := hO1.below hb0 (by omega)
  have hs1 := hO1.1
  rw [show (rNum (b, false)).1 = sEnd b from rfl] at *
  have hq1 : G + 1 < w1.heap.size := by omega
  clear k0 k1 hb0 hO1 hs1 hk1l
  generalize hEN : sEnd b = EN at *
  have HEN : Hid (sEnd b = EN) := hEN
  clear hEN
  have k2 := Blk.new w1 92 #[.string { data := #[] }, .int .i64 (EN : Int)]
  have k02 := k01.alloc (.cells #[.string { data := #[] }, .int .i64 (EN : Int)] 92)
  have hR2 : RdrP (w1.alloc (.cells #[.string { data := #[] }, .int .i64 (EN : Int)] 92)) (G + 1) (rNum (b, false)).2 := Blk.alloc hR1 _
  have hb2 : Below G w (w1.alloc (.cells #[.string { data := #[] }, .int .i64 (EN : Int)] 92)) := hb1.alloc (by omega) _
  clear k01 hb1 hR1
  go_wp2_with fail
  generalize w1.alloc (.cells #[.string { data := #[] }, .int .i64 (EN : Int)] 92) = W2 at *
  generalize w1.heap.size = g2 at *
  have HBC : Hid _ := byte_any (G + 1) (rNum (b, false)).2 W2 hR2
  have hl2 := rByte_lt (rNum (b, false)).2
  refine Calls.mono HBC.out ?_
  clear HBC
  rintro en w3 ⟨rfl, hR3, hO3⟩
  have k03 := k02.only hO3 (by omega)
  have k23 := k2.only hO3 (by omega)
  have hb3 := hO3.below hb2 (by omega)
  have hR3' : RdrP w3 (G + 1) (sRd b) := hR3
  rw [show (rByte (rNum (b, false)).2).1 = sKind b from rfl] at *
  clear k02 k2 hb2 hO3 hR2 hR3
  have HOK : Hid (sOk b n ↔ ((sKind b = 0 ∧ (fSt (sRd b) n (fLet (sRd b)).size).2 = false) ∨ (sKind b = 1 ∧ (rTake (sRd b) n).2.2 = false))) := Iff.rfl
  have HTX : Hid (sText b n = if sKind b = 0 then bs (fText (sRd b) n) else (rTake (sRd b) n).1) := rfl
  generalize sRd b = RD at *
  generalize sKind b = KD at *
  by_cases h0 : KD = 0
  · subst h0
    have HFC : Hid _ := readFew_any (G + 1) n RD w3 hn hR3'
    go_wp2_with fail
    refine Calls.mono HFC.out ?_
    clear HFC hR3'
    rintro en w4 ⟨hres, hX4⟩
    have k04 := k03.onlyX hX4 k03.lt (by omega)
    have k24 := k23.onlyX hX4 k23.lt (by omega)
    have hb4 : Below G w w4 := hb3.trans (hX4.2.mono (by omega))
    clear k03 k23 hb3 hX4
    have hres' : ∃ ST SH, en = .returned (.string ST) ∧ w4.cell? ⟨G + 1, 1, none⟩ = some (.bool SH) ∧ Hid (sOk b n ↔ SH = false) ∧ Hid (SH = false → sText b n = ST) := by
      rcases hres with ⟨rfl, hR4⟩ | ⟨rfl, k, hk, hsh, hR4⟩
      · refine ⟨_, _, rfl, Blk.cell hR4 1, ?_, fun _ => HTX.out⟩
        show _ ↔ _
        rw [HOK.out]; simp
      · refine ⟨_, true, rfl, ?_, ?_, fun h => by cases h⟩
        · have := Blk.cell hR4 1
          rw [hsh] at this
          exact this
        · show _ ↔ _
          rw [HOK.out]
          have h2 := fSt_short RD n (k + 1) ((fLet RD).size - (k + 1)) hsh
          rw [show k + 1 + ((fLet RD).size - (k + 1)) = (fLet RD).size from by omega] at h2
          rw [h2]; simp
    clear hres HOK HTX
    obtain ⟨ST, SH, rfl, hr1, HO1, HT1⟩ := hres'
    have hd0 : w4.cell? ⟨g2, 0, none⟩ = some (.string { data := #[] }) := k24.cell 0
    have hd1 : w4.cell? ⟨g2, 1, none⟩ = some (.int .i64 (EN : Int)) := k24.cell 1
    have he0 : w4.cell? ⟨G, 0, none⟩ = some (.string { data := #[] }) := k04.cell 0
    have he1 : w4.cell? ⟨G, 1, none⟩ = some (.int .i64 0) := k04.cell 1
    have hf0 := k04.free 0
    have hf1 := k04.free 1
    have hfg := k24.free 0
    have hgg : G ≠ g2 := by omega
    have hgg' : g2 ≠ G := by omega
    have HKK : Hid (Blk ((w4.setCell ⟨g2, 0, none⟩ (.string ST)).setCell ⟨G, 0, none⟩ (.string ST) |>.setCell ⟨G, 1, none⟩ (.int .i64 (EN : Int))) G 92 #[.string ST, .int .i64 (EN : Int)]) := ((k04.setOther (a := ⟨g2, 0, none⟩) hgg (.string ST)).set 0 (.string ST)).set 1 (.int .i64 (EN : Int))
    have HBB : Hid (Below G w ((w4.setCell ⟨g2, 0, none⟩ (.string ST)).setCell ⟨G, 0, none⟩ (.string ST) |>.setCell ⟨G, 1, none⟩ (.int .i64 (EN : Int)))) := ((hb4.setCell (by show G ≤ g2; omega) _).setCell (Nat.le_refl _) _).setCell (Nat.le_refl _) _
    clear k04 k24 hb4
    go_wp2_with fail
    go_region
    all_goals go_wp2
    refine bodyPost_ret (v := .tuple #[.agg #[.string ST, .int .i64 (EN : Int)], .bool (!SH)]) (results_cell_tmp_row (ty := 92) rfl _ _ G #[.string ST, .int .i64 (EN : Int)] (.bool (!SH)) rfl rfl (run_loadVar_row _ G 92 92 #[.string ST, .int .i64 (EN : Int)] (0, 0) _ (show ((w4.setCell ⟨g2, 0, none⟩ (.string ST)).setCell ⟨G, 0, none⟩ (.string ST) |>.setCell ⟨G, 1, none⟩ (.int .i64 (EN : Int))).drew.heap[G]? = _ from HKK.out) Try.underlying92 rfl infoTr)) rfl ⟨?_, by rw [← HG.out]; exact HBB.out.drew⟩
    cases SH with
    | true => exact .inr ⟨fun h => Bool.noConfusion (HO1.out.1 h), ST, by rw [HEN.out]; rfl⟩
    | false => exact .inl ⟨HO1.out.2 rfl, by rw [HEN.out, HT1.out rfl]; rfl⟩
  · by_cases h1 : KD = 1
    · subst h1
      have HTC : Hid _ := take_any (G + 1) n RD w3 hR3'
      go_wp2_with fail
      refine Calls.mono HTC.out ?_
      clear HTC hR3'
      rintro en w4 ⟨rfl, hR4, hO4⟩
      have k04 := k03.only hO4 (by omega)
      have k24 := k23.only hO4 (by omega)
      have hb4 := hO4.below hb3 (by omega)
      clear k03 k23 hb3 hO4
      have hd0 : w4.cell? ⟨g2, 0, none⟩ = some (.string { data := #[] }) := k24.cell 0
      have hd1 : w4.cell? ⟨g2, 1, none⟩ = some (.int .i64 (EN : Int)) := k24.cell 1
      have he0 : w4.cell? ⟨G, 0, none⟩ = some (.string { data := #[] }) := k04.cell 0
      have he1 : w4.cell? ⟨G, 1, none⟩ = some (.int .i64 0) := k04.cell 1
      have hf0 := k04.free 0
      have hf1 := k04.free 1
      have hfg := k24.free 0
      have hgg : G ≠ g2 := by omega
      have hgg' : g2 ≠ G := by omega
      have hr1 : w4.cell? ⟨G + 1, 1, none⟩ = some (.bool (rTake RD n).2.2) := Blk.cell hR4 1
      have HO1 : Hid (sOk b n ↔ (rTake RD n).2.2 = false) := by
        show _ ↔ _
        rw [HOK.out]; simp
      have HT1 : Hid ((rTake RD n).2.2 = false → sText b n = (rTake RD n).1) := fun _ => HTX.out
      clear HOK HTX hR4
      generalize (rTake RD n).2.2 = SH at *
      generalize (rTake RD n).1 = ST at *
      have HKK : Hid (Blk ((w4.setCell ⟨g2, 0, none⟩ (.string ST)).setCell ⟨G, 0, none⟩ (.string ST) |>.setCell ⟨G, 1, none⟩ (.int .i64 (EN : Int))) G 92 #[.string ST, .int .i64 (EN : Int)]) := ((k04.setOther (a := ⟨g2, 0, none⟩) hgg (.string ST)).set 0 (.string ST)).set 1 (.int .i64 (EN : Int))
      have HBB : Hid (Below G w ((w4.setCell ⟨g2, 0, none⟩ (.string ST)).setCell ⟨G, 0, none⟩ (.string ST) |>.setCell ⟨G, 1, none⟩ (.int .i64 (EN : Int)))) := ((hb4.setCell (by show G ≤ g2; omega) _).setCell (Nat.le_refl _) _).setCell (Nat.le_refl _) _
      clear k04 k24 hb4
      go_wp2_with fail
      go_region
      all_goals go_wp2
      refine bodyPost_ret (v := .tuple #[.agg #[.string ST, .int .i64 (EN : Int)], .bool (!SH)]) (results_cell_tmp_row (ty := 92) rfl _ _ G #[.string ST, .int .i64 (EN : Int)] (.bool (!SH)) rfl rfl (run_loadVar_row _ G 92 92 #[.string ST, .int .i64 (EN : Int)] (0, 0) _ (show ((w4.setCell ⟨g2, 0, none⟩ (.string ST)).setCell ⟨G, 0, none⟩ (.string ST) |>.setCell ⟨G, 1, none⟩ (.int .i64 (EN : Int))).drew.heap[G]? = _ from HKK.out) Try.underlying92 rfl infoTr)) rfl ⟨?_, by rw [← HG.out]; exact HBB.out.drew⟩
      cases SH with
      | true => exact .inr ⟨fun h => Bool.noConfusion (HO1.out.1 h), ST, by rw [HEN.out]; rfl⟩
      | false => exact .inl ⟨HO1.out.2 rfl, by rw [HEN.out, HT1.out rfl]; rfl⟩
    · have k04 := k03
      have k24 := k23
      have hd0 : w3.cell? ⟨g2, 0, none⟩ = some (.string { data := #[] }) := k24.cell 0
      have hd1 : w3.cell? ⟨g2, 1, none⟩ = some (.int .i64 (EN : Int)) := k24.cell 1
      have he0 : w3.cell? ⟨G, 0, none⟩ = some (.string { data := #[] }) := k04.cell 0
      have he1 : w3.cell? ⟨G, 1, none⟩ = some (.int .i64 0) := k04.cell 1
      have hf0 := k04.free 0
      have hf1 := k04.free 1
      have hfg := k24.free 0
      have hgg : G ≠ g2 := by omega
      have hgg' : g2 ≠ G := by omega
      have HNO : Hid (¬ sOk b n) := fun h => by rcases HOK.out.1 h with h | h; exact h0 h.1; exact h1 h.1
      have HKK : Hid (Blk ((w3.setCell ⟨G, 0, none⟩ (.string { data := #[] })).setCell ⟨G, 1, none⟩ (.int .i64 (EN : Int))) G 92 #[.string { data := #[] }, .int .i64 (EN : Int)]) := (k04.set 0 (.string { data := #[] })).set 1 (.int .i64 (EN : Int))
      clear HOK HTX k03 k23 k04 k24
      go_wp2_with fail
      refine bodyPost_ret (v := .tuple #[.agg #[.string { data := #[] }, .int .i64 (EN : Int)], .bool false]) (results_cell_tmp_row (ty := 92) rfl _ _ G #[.string { data := #[] }, .int .i64 (EN : Int)] (.bool false) rfl rfl (run_loadVar_row _ G 92 92 #[.string { data := #[] }, .int .i64 (EN : Int)] (0, 0) _ HKK.out Try.underlying92 rfl infoTr)) rfl ⟨.inr ⟨HNO.out, _, by rw [HEN.out]⟩, ?_⟩
      rw [← HG.out]
      exact (hb3.setCell (Nat.le_refl _) _).setCell (Nat.le_refl _) _
end Go.Proofs.Ytkebgnpifmcmaaa
