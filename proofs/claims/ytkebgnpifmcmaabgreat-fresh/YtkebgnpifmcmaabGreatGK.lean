import Derived.Test.YtkebgnpifmcmaabGreatGH
namespace Go.Proofs.YtkebgnpifmcmaabGreat
open Go.RowKit

set_option maxRecDepth 10000 in
set_option maxHeartbeats 4000000 in
theorem grow_right {w : World} {g : Nat} {t : List UInt8} {rate : Nat} {f f2 : Nat → Nat} (h : IxT w g t rate f f2) (lo hi bk c : Nat) (hc : c < 256) (hl : lo ≤ hi) (hh : hi ≤ t.length + 1) (hbk : bk + (hi - lo) ≤ t.length + 1) :
    Calls Tryz.prog 89 #[.pointer (some ⟨g, 0, none⟩), .agg #[.int .i64 (lo : Int), .int .i64 (hi : Int), .int .i64 (bk : Int)], .int .i64 1, .int .u8 (c : Int)] w fun en w' => en = .returned (rightV t.reverse f2 lo hi bk c) ∧ Below w.heap.size w w' := by
  have hb0 : Below w.heap.size w ((w.alloc (.cells #[.int .i64 (lo : Int), .int .i64 (hi : Int), .int .i64 (bk : Int)] 47)).alloc (.cells #[.int .i64 0, .int .i64 0, .int .i64 0] 47)) := ((Below.refl _ _).alloc (Nat.le_refl _) _).alloc (by simp) _
  have k0 := (Blk.new w 47 #[.int .i64 (lo : Int), .int .i64 (hi : Int), .int .i64 (bk : Int)]).alloc (.cells #[.int .i64 0, .int .i64 0, .int .i64 0] 47)
  have k1 := Blk.new (w.alloc (.cells #[.int .i64 (lo : Int), .int .i64 (hi : Int), .int .i64 (bk : Int)] 47)) 47 #[.int .i64 0, .int .i64 0, .int .i64 0]
  rw [show (w.alloc (.cells #[.int .i64 (lo : Int), .int .i64 (hi : Int), .int .i64 (bk : Int)] 47)).heap.size = w.heap.size + 1 from by simp] at k1
  have HN : Hid (∀ w', Below w.heap.size w w' → Calls Tryz.prog 64 #[.pointer (some ⟨g, 2, none⟩), .int .i64 (bk : Int), .int .i64 ((bk + hi - lo : Nat) : Int), .int .u8 (c : Int)] w' fun en w2 => en = .returned (.tuple #[.int .i64 ((mvL t.reverse f2 c bk : Nat) : Int), .int .i64 ((mvL t.reverse f2 c (bk + hi - lo) : Nat) : Int), .int .i64 ((mvP t.reverse f2 c bk (bk + hi - lo) : Nat) : Int)]) ∧ Below w'.heap.size w' w2) := fun w' hb => side_narrow (h.back.below hb) bk (bk + hi - lo) c hc (by omega) (by rw [List.length_reverse]; omega)
  have hn := h.2.2.1
  have l1 := mvP_le t.reverse f2 c bk (bk + hi - lo)
  have l2 := mvL_le t.reverse f2 c (bk + hi - lo)
  have l3 := mvL_mono t.reverse f2 c (show bk ≤ bk + hi - lo by omega)
  rw [List.length_reverse] at l2
  clear h
  have HV : Hid (rightV t.reverse f2 lo hi bk c = .agg #[.int .i64 ((lo : Int) + (mvP t.reverse f2 c bk (bk + hi - lo) : Int)), .int .i64 ((lo : Int) + (mvP t.reverse f2 c bk (bk + hi - lo) : Int) + (mvL t.reverse f2 c (bk + hi - lo) : Int) - (mvL t.reverse f2 c bk : Int)), .int .i64 (mvL t.reverse f2 c bk : Int)]) := by
    show rightV t.reverse f2 lo hi bk c = _
    unfold rightV; rw [Int.natCast_add, Int.natCast_sub (by omega), Int.natCast_add, Int.natCast_add]
  generalize hX : bk + hi - lo = X at *
  have hw1 : IntKind.i64.wrap ((bk : Int) + (hi : Int)) = (bk : Int) + (hi : Int) := wrapI_small (by omega) (by omega)
  have HWX : IntKind.i64.wrap (X : Int) = (X : Int) := wrapI_small (by omega) (by omega)
  have hXI : (bk : Int) + (hi : Int) - (lo : Int) = (X : Int) := by omega
  generalize mvP t.reverse f2 c bk X = P at *
  generalize mvL t.reverse f2 c bk = L at *
  generalize mvL t.reverse f2 c X = U at *
  go_enter Tryz.func89, Tryz.ntmps89
  go_upto_region 4 with fail
  generalize (w.alloc (.cells #[.int .i64 (lo : Int), .int .i64 (hi : Int), .int .i64 (bk : Int)] 47)).alloc (.cells #[.int .i64 0, .int .i64 0, .int .i64 0] 47) = W0 at *
  obtain ⟨G, hG⟩ : ∃ G, G = w.heap.size := ⟨_, rfl⟩
  have HG : Hid (G = w.heap.size) := hG
  rw [← hG] at k0 k1 hb0 ⊢
  clear hG
  have hc0 : W0.cell? ⟨G, 0, none⟩ = some (.int .i64 (lo : Int)) := k0.cell 0
  have hc1 : W0.cell? ⟨G, 1, none⟩ = some (.int .i64 (hi : Int)) := k0.cell 1
  have hc2 : W0.cell? ⟨G, 2, none⟩ = some (.int .i64 (bk : Int)) := k0.cell 2
  have k0' : Blk W0.drew G 47 #[.int .i64 (lo : Int), .int .i64 (hi : Int), .int .i64 (bk : Int)] := k0
  have k1' : Blk W0.drew (G + 1) 47 #[.int .i64 0, .int .i64 0, .int .i64 0] := k1
  have hl0 := k0.lt
  have hl1 := k1.lt
  have hbd : Below G w W0.drew := hb0.drew
  have HN1 : Hid _ := HN.out W0.drew (by rw [← HG.out]; exact hbd)
  clear HN
  go_region_law (first
    | (refine step_calls (args := #[.pointer (some ⟨g, 2, none⟩), .int .i64 (bk : Int), .int .i64 (X : Int), .int .u8 (c : Int)]) rfl rfl enterNarrow (by first | (simp [Act.eval, Act.put]; done) | (simp [Act.eval, Act.put]; exact HWX)) HN1.out ?_; rintro en w2 ⟨rfl, hb2⟩; refine ⟨_, rfl, ?_⟩; have hd0 : w2.cell? ⟨G, 0, none⟩ = some (.int .i64 (lo : Int)) := (k0'.below hb2 hl0).cell 0; have hk2 := k1'.below hb2 hl1; have hf0 := hk2.free 0; have hf1 := hk2.free 1; have hf2 := hk2.free 2; have e0 := hk2.cell 0; have e1 := hk2.cell 1; have e2 := hk2.cell 2))
  all_goals go_wp2
  all_goals exact bodyPost_ret (v := .agg #[.int .i64 ((lo : Int) + (P : Int)), .int .i64 ((lo : Int) + (P : Int) + (U : Int) - (L : Int)), .int .i64 (L : Int)]) (results_cell_row (P := Tryz.prog) rfl _ _ (G + 1) 47 _ (0, 0) _ rfl (((hk2.set 0 _).set 1 _).set 2 _) Tryz.underlying47 rfl infoPair) rfl ⟨by rw [HV.out], by rw [← HG.out]; exact (((hbd.trans (hb2.mono (Nat.le_of_lt hl0))).setCell (by show G ≤ G + 1; omega) _).setCell (by show G ≤ G + 1; omega) _).setCell (by show G ≤ G + 1; omega) _⟩
end Go.Proofs.YtkebgnpifmcmaabGreat
