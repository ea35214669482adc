import Derived.Test.YtkebgnpifmcmaaaXU
import Derived.Laws.ResultCell
namespace Go.Proofs.Ytkebgnpifmcmaaa
open Go.RowKit

/-- What a reader does, as a function. -/
def rTake (r : ByteArray × Bool) (c : Nat) : ByteArray × (ByteArray × Bool) := if r.2 = true ∨ r.1.size < c then (ByteArray.empty, (r.1, true)) else (r.1.extract 0 c, (r.1.extract c r.1.size, false))
def rByte (r : ByteArray × Bool) : Nat × (ByteArray × Bool) := if h : r.2 = true ∨ r.1.size < 1 then (0, (r.1, true)) else ((r.1[0]'(by omega)).toNat, (r.1.extract 1 r.1.size, false))
def rNum (r : ByteArray × Bool) : Nat × (ByteArray × Bool) := if h : r.2 = true ∨ r.1.size < 2 then (0, (r.1, true)) else ((r.1[0]'(by omega)).toNat * 256 + (r.1[1]'(by omega)).toNat, (r.1.extract 2 r.1.size, false))
def RdrP (w : World) (g : Nat) (r : ByteArray × Bool) : Prop := Rdr w g r.1 r.2

theorem take_any (g c : Nat) (r : ByteArray × Bool) (w : World) (h : RdrP w g r) :
    Calls Try.prog 84 #[.pointer (some ⟨g, 0, none⟩), .int .i64 (c : Int)] w fun e w' => e = .returned (.string (rTake r c).1) ∧ RdrP w' g (rTake r c).2 ∧ Only g w w' := by
  unfold rTake
  by_cases hs : r.2 = true ∨ r.1.size < c
  · rw [if_pos hs]; exact take_short g c r.1 r.2 w h hs
  · rw [if_neg hs]
    have h2 : r.2 = false := by simpa using fun h => hs (.inl h)
    have h3 : Rdr w g r.1 false := by have := h; unfold RdrP at this; rw [h2] at this; exact this
    exact take_long g c r.1 w h3 (by omega)
theorem byte_any (g : Nat) (r : ByteArray × Bool) (w : World) (h : RdrP w g r) :
    Calls Try.prog 83 #[.pointer (some ⟨g, 0, none⟩)] w fun e w' => e = .returned (.int .i64 ((rByte r).1 : Int)) ∧ RdrP w' g (rByte r).2 ∧ Only g w w' := by
  unfold rByte
  by_cases hs : r.2 = true ∨ r.1.size < 1
  · rw [dif_pos hs]; exact byte_short g r.1 r.2 w h hs
  · rw [dif_neg hs]
    have h2 : r.2 = false := by simpa using fun h => hs (.inl h)
    have h3 : Rdr w g r.1 false := by have := h; unfold RdrP at this; rw [h2] at this; exact this
    exact byte_long g r.1 w h3 (by omega)
theorem number_any (g : Nat) (r : ByteArray × Bool) (w : World) (h : RdrP w g r) :
    Calls Try.prog 85 #[.pointer (some ⟨g, 0, none⟩)] w fun e w' => e = .returned (.int .i64 ((rNum r).1 : Int)) ∧ RdrP w' g (rNum r).2 ∧ Only g w w' := by
  unfold rNum
  by_cases hs : r.2 = true ∨ r.1.size < 2
  · rw [dif_pos hs]; exact number_short g r.1 r.2 w h hs
  · rw [dif_neg hs]
    have h2 : r.2 = false := by simpa using fun h => hs (.inl h)
    have h3 : Rdr w g r.1 false := by have := h; unfold RdrP at this; rw [h2] at this; exact this
    exact number_long g r.1 w h3 (by omega)
theorem rByte_lt (r : ByteArray × Bool) : (rByte r).1 < 256 := by
  unfold rByte; split
  · exact Nat.zero_lt_succ _
  · exact UInt8.toNat_lt _
theorem rNum_lt (r : ByteArray × Bool) : (rNum r).1 < 65536 := by
  unfold rNum; split
  · exact Nat.zero_lt_succ _
  · have h1 := (r.1[0]'(by omega)).toNat_lt
    have h2 := (r.1[1]'(by omega)).toNat_lt
    show (r.1[0]'(by omega)).toNat * 256 + (r.1[1]'(by omega)).toNat < 65536
    omega

/-- One part: its number, its bytes, and what is left. -/
def rPart (r : ByteArray × Bool) : Nat × ByteArray × (ByteArray × Bool) := ((rByte r).1, (rTake (rNum (rByte r).2).2 (rNum (rByte r).2).1).1, (rTake (rNum (rByte r).2).2 (rNum (rByte r).2).1).2)
def rSt (im : ByteArray) : Nat → ByteArray × Bool
  | 0 => (im, false)
  | k + 1 => (rPart (rSt im k)).2.2
def rBody (im : ByteArray) (k : Nat) : ByteArray := (rPart (rSt im k)).2.1
def rTags (im : ByteArray) : Prop := ∀ j, j < 4 → (rPart (rSt im j)).1 = j

theorem infoSplit : (Try.prog.info? 95).map (·.size) = some 4 := by kernel_rfl

theorem results_cell_tmp_row {fn : Func} {p u : Tmp} {ty : TypeId} (h : fn.results = #[.cell p ty, .tmp u]) (tmps : Array Value) (w : World) (g : Nat) (cs : Array Value) (x : Value)
    (hp : tmps.getD p undef = .pointer (some ⟨g, 0, none⟩)) (hx : tmps.getD u undef = x) (hl : (loadVar ty ⟨g, 0, none⟩).run Try.prog w = .ok (.agg cs) w) :
    (results fn tmps).run Try.prog w = .ok (.tuple #[.agg cs, x]) w := by
  rw [results_cell_tmp h, hp, hx]
  simp [asAddr, hl, Result.andThen]
theorem Only.below {g B : Nat} {a w w' : World} (h : Only g w w') (hb : Below B a w) (hB : B ≤ g) : Below B a w' := hb.trans (h.2.2.mono hB)
theorem Blk.only {g b : Nat} {w w' : World} {T : TypeId} {cs : Array Value} (h : Blk w b T cs) (ho : Only g w w') (hne : b ≠ g) : Blk w' b T cs := h.block (ho.2.1 b hne)
/-- Four strings. -/
def S4 (F : Nat → ByteArray) : Array Value := #[.string (F 0), .string (F 1), .string (F 2), .string (F 3)]
theorem S4_set (F : Nat → ByteArray) (k : Nat) (hk : k < 4) (x : ByteArray) : (S4 F).setIfInBounds k (.string x) = S4 (upd F k x) := by
  rcases (show k = 0 ∨ k = 1 ∨ k = 2 ∨ k = 3 by omega) with rfl | rfl | rfl | rfl <;> rfl

set_option maxRecDepth 10000 in
set_option maxHeartbeats 1000000 in
theorem split_any (im : ByteArray) (w : World) :
    Calls Try.prog 63 #[.string im] w fun e w' => ((rTags im ∧ e = .returned (.tuple #[.agg (S4 (rBody im)), .bool (!(rSt im 4).2)])) ∨ (¬ rTags im ∧ ∃ F, e = .returned (.tuple #[.agg (S4 F), .bool false]))) ∧ Below w.heap.size w w' := by
  have hA := allocs3 w (.cells (S4 fun _ => { data := #[] }) 95) (.cells (S4 fun _ => { data := #[] }) 95) (.cells #[.string im, .bool false] 124)
  unfold S4 at hA
  go_enter Try.func63, Try.ntmps63
  go_wp2_with fail
  generalize ((w.alloc (.cells #[.string { data := #[] }, .string { data := #[] }, .string { data := #[] }, .string { data := #[] }] 95)).alloc (.cells #[.string { data := #[] }, .string { data := #[] }, .string { data := #[] }, .string { data := #[] }] 95)).alloc (.cells #[.string im, .bool false] 124) = W0 at *
  obtain ⟨k0, k1, k2, hb0, hs0⟩ := hA
  obtain ⟨G, hG⟩ : ∃ G, G = w.heap.size := ⟨_, rfl⟩
  rw [← hG] at k0 k1 k2 hb0 ⊢
  have HG : Hid (G = w.heap.size) := hG
  clear hG hs0
  go_loopw [9, 6] (fun iv _ wr => ∃ k : Nat, k ≤ 4 ∧ iv = .int .i64 (k : Int) ∧ Blk wr G 95 (S4 fun _ => { data := #[] }) ∧ (∃ F, Blk wr (G + 1) 95 (S4 F) ∧ Hid (∀ j, j < k → F j = rBody im j)) ∧ RdrP wr (G + 1 + 1) (rSt im k) ∧ Hid (∀ j, j < k → (rPart (rSt im j)).1 = j) ∧ Below G w wr) (fun iv _ _ => 4 - (intOf iv).toNat)
  case atStart => exact ⟨0, Nat.zero_le _, rfl, k0, ⟨fun _ => { data := #[] }, k1, fun j hj => by omega⟩, k2, fun j hj => by omega, hb0⟩
  case round =>
    clear k0 k1 k2 hb0
    obtain ⟨k, hk, rfl, k0, ⟨F, k1, HF⟩, hR, HT, hb⟩ := hrel
    have HST : Hid (rSt im (k + 1) = (rPart (rSt im k)).2.2) := rfl
    have HBD : Hid (rBody im k = (rPart (rSt im k)).2.1) := rfl
    by_cases hlt : k < 4
    · have HBC : Hid _ := byte_any (G + 1 + 1) (rSt im k) wr hR
      have hbl := rByte_lt (rSt im k)
      go_wp2_with fail
      refine Calls.mono HBC.out ?_
      clear HBC hR
      rintro en w1 ⟨rfl, hR1, hO1⟩
      have k01 := k0.only hO1 (by omega)
      have k11 := k1.only hO1 (by omega)
      have hb1 := hO1.below hb (by omega)
      clear k0 k1 hb hO1
      have hd0 : w1.cell? ⟨G + 1, 0, none⟩ = some (.string (F 0)) := k11.cell 0
      have hd1 : w1.cell? ⟨G + 1, 1, none⟩ = some (.string (F 1)) := k11.cell 1
      have hd2 : w1.cell? ⟨G + 1, 2, none⟩ = some (.string (F 2)) := k11.cell 2
      have hd3 : w1.cell? ⟨G + 1, 3, none⟩ = some (.string (F 3)) := k11.cell 3
      have he0 : w1.cell? ⟨G, 0, none⟩ = some (.string { data := #[] }) := k01.cell 0
      have he1 : w1.cell? ⟨G, 1, none⟩ = some (.string { data := #[] }) := k01.cell 1
      have he2 : w1.cell? ⟨G, 2, none⟩ = some (.string { data := #[] }) := k01.cell 2
      have he3 : w1.cell? ⟨G, 3, none⟩ = some (.string { data := #[] }) := k01.cell 3
      have hf0 := k01.free 0
      have hf1 := k01.free 1
      have hf2 := k01.free 2
      have hf3 := k01.free 3
      by_cases htag : (rByte (rSt im k)).1 = k
      · have hdt : (((rByte (rSt im k)).1 : Int) == (k : Int)) = true := by simp [htag]
        have HTG : Hid ((rPart (rSt im k)).1 = k) := htag
        clear htag hd0 hd1 hd2 hd3 he0 he1 he2 he3 hf0 hf1 hf2 hf3
        have HNC : Hid _ := number_any (G + 1 + 1) (rByte (rSt im k)).2 w1 hR1
        generalize (rByte (rSt im k)).1 = TG at *
        go_wp2_with fail
        refine Calls.mono HNC.out ?_
        clear HNC hR1
        rintro en w2 ⟨rfl, hR2, hO2⟩
        have HTC : Hid _ := take_any (G + 1 + 1) (rNum (rByte (rSt im k)).2).1 (rNum (rByte (rSt im k)).2).2 w2 hR2
        have hNl := rNum_lt (rByte (rSt im k)).2
        have k02 := k01.only hO2 (by omega)
        have k12 := k11.only hO2 (by omega)
        have hb2 := hO2.below hb1 (by omega)
        clear k01 k11 hb1 hO2 hR2
        go_wp2_with fail
        refine Calls.mono HTC.out ?_
        clear HTC
        rintro en w3 ⟨rfl, hR3, hO3⟩
        have k03 := k02.only hO3 (by omega)
        have k13 := k12.only hO3 (by omega)
        have hb3 := hO3.below hb2 (by omega)
        clear k02 k12 hb2 hO3
        have hck : (w3.cell? ⟨G + 1, k, none⟩).isSome = true := by
          rw [k13.cell k]
          rcases (show k = 0 ∨ k = 1 ∨ k = 2 ∨ k = 3 by omega) with h | h | h | h <;> rw [h] <;> rfl
        obtain ⟨vk, hvk⟩ := Option.isSome_iff_exists.1 hck
        have hfk := k13.free k
        have hq1 : (k : Int) < 4 := by omega
        have k13s := k13.set k (.string (rTake (rNum (rByte (rSt im k)).2).2 (rNum (rByte (rSt im k)).2).1).1)
        rw [S4_set F k hlt] at k13s
        have HFN : Hid (∀ j, j < k + 1 → upd F k (rTake (rNum (rByte (rSt im k)).2).2 (rNum (rByte (rSt im k)).2).1).1 j = rBody im j) := upd_next HF.out rfl
        have HTN : Hid (∀ j, j < k + 1 → (rPart (rSt im j)).1 = j) := by
          intro j hj
          by_cases e : j = k
          · rw [e]; exact HTG.out
          · exact HT.out j (by omega)
        have hR3' : RdrP w3 (G + 1 + 1) (rSt im (k + 1)) := hR3
        clear hR3 hck
        generalize (rTake (rNum (rByte (rSt im k)).2).2 (rNum (rByte (rSt im k)).2).1).1 = BD at *
        generalize (rNum (rByte (rSt im k)).2).1 = NN at *
        go_wp2
        go_roundw
        case rel => exact ⟨k + 1, by omega, by go_num, k03.setOther (by show G ≠ G + 1; omega) _, ⟨_, k13s, HFN⟩, Blk.setOther (show Blk w3 (G + 1 + 1) _ _ from hR3') (by show G + 1 + 1 ≠ G + 1; omega) _, HTN, hb3.setCell (by show G ≤ G + 1; omega) _⟩
        case measure => simp [intOf]; omega
      · have hdt : (((rByte (rSt im k)).1 : Int) == (k : Int)) = false := by simp; omega
        have HNT : Hid (¬ rTags im) := fun h => htag (h k hlt)
        clear htag
        generalize (rByte (rSt im k)).1 = TG at *
        go_wp2_with fail
        rw [HG.out] at hb1
        refine bodyPost_ret (v := .tuple #[.agg (S4 F), .bool false]) (results_cell_tmp_row (ty := 95) rfl _ _ G (S4 F) (.bool false) rfl rfl (run_loadVar_row _ G 95 95 (S4 F) (0, 0) _ ((((k01.set 0 _).set 1 _).set 2 _).set 3 _) Try.underlying95 rfl infoSplit)) rfl ⟨.inr ⟨HNT.out, F, rfl⟩, ?_⟩
        exact (((hb1.setCell (by rw [← HG.out]; exact Nat.le_refl _) _).setCell (by rw [← HG.out]; exact Nat.le_refl _) _).setCell (by rw [← HG.out]; exact Nat.le_refl _) _).setCell (by rw [← HG.out]; exact Nat.le_refl _) _
    · have hk4 : k = 4 := by omega
      subst hk4
      have HTT : Hid (rTags im) := HT.out
      have HFF : Hid (S4 F = S4 (rBody im)) := by
        show S4 F = S4 (rBody im)
        unfold S4
        rw [HF.out 0 (by omega), HF.out 1 (by omega), HF.out 2 (by omega), HF.out 3 (by omega)]
      have hd0 : wr.cell? ⟨G + 1, 0, none⟩ = some (.string (F 0)) := k1.cell 0
      have hd1 : wr.cell? ⟨G + 1, 1, none⟩ = some (.string (F 1)) := k1.cell 1
      have hd2 : wr.cell? ⟨G + 1, 2, none⟩ = some (.string (F 2)) := k1.cell 2
      have hd3 : wr.cell? ⟨G + 1, 3, none⟩ = some (.string (F 3)) := k1.cell 3
      have he0 : wr.cell? ⟨G, 0, none⟩ = some (.string { data := #[] }) := k0.cell 0
      have he1 : wr.cell? ⟨G, 1, none⟩ = some (.string { data := #[] }) := k0.cell 1
      have he2 : wr.cell? ⟨G, 2, none⟩ = some (.string { data := #[] }) := k0.cell 2
      have he3 : wr.cell? ⟨G, 3, none⟩ = some (.string { data := #[] }) := k0.cell 3
      have hf0 := k0.free 0
      have hf1 := k0.free 1
      have hf2 := k0.free 2
      have hf3 := k0.free 3
      have hr1 : wr.cell? ⟨G + 1 + 1, 1, none⟩ = some (.bool (rSt im 4).2) := Blk.cell hR 1
      clear HST HBD HF HT
      generalize hSH : (rSt im 4).2 = SH at *
      have HSH : Hid ((rSt im 4).2 = SH) := hSH
      clear hSH
      go_wp2_with fail
      go_region
      all_goals go_wp2
      have hkk := (((k0.set 0 (.string (F 0))).set 1 (.string (F 1))).set 2 (.string (F 2))).set 3 (.string (F 3))
      rw [HG.out] at hb
      refine bodyPost_ret (v := .tuple #[.agg (S4 F), .bool (!SH)]) (results_cell_tmp_row (ty := 95) rfl _ _ G (S4 F) (.bool (!SH)) rfl rfl (run_loadVar_row _ G 95 95 (S4 F) (0, 0) _ (show ((((wr.setCell ⟨G, 0, none⟩ (.string (F 0))).setCell ⟨G, 1, none⟩ (.string (F 1))).setCell ⟨G, 2, none⟩ (.string (F 2))).setCell ⟨G, 3, none⟩ (.string (F 3))).drew.heap[G]? = _ from hkk) Try.underlying95 rfl infoSplit)) rfl ⟨.inl ⟨HTT.out, by rw [HFF.out, HSH.out]⟩, ?_⟩
      exact ((((hb.setCell (by rw [← HG.out]; exact Nat.le_refl _) _).setCell (by rw [← HG.out]; exact Nat.le_refl _) _).setCell (by rw [← HG.out]; exact Nat.le_refl _) _).setCell (by rw [← HG.out]; exact Nat.le_refl _) _).drew
end Go.Proofs.Ytkebgnpifmcmaaa
