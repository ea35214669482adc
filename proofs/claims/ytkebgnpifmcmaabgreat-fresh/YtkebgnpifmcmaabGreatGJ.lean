import Derived.Test.YtkebgnpifmcmaabGreatGH
namespace Go.Proofs.YtkebgnpifmcmaabGreat
open Go.RowKit

/-- What a call on a pair answers. -/
def okRes (v : Value) (w : World) (e : Ending) (w' : World) : Prop := e = .returned (.tuple #[v, .int .i64 0]) ∧ Below w.heap.size w w'

set_option maxRecDepth 10000 in
set_option maxHeartbeats 1000000 in
theorem refLeft_ok (s : ByteArray) (lo hi bk c : Nat) (w : World) (hn : s.size ≤ 2000) (hc : c < 256) (hl : lo ≤ hi) (hh : hi ≤ s.size + 1) (hbk : bk + (hi - lo) ≤ s.size + 1) (f : Nat → Nat) (F : IsSA (tx s) f) :
    Calls Tryz.prog 76 #[.string s, .agg #[.int .i64 (lo : Int), .int .i64 (hi : Int), .int .i64 (bk : Int)], .int .i64 (c : Int)] w (okRes (leftV (tx s) f lo hi bk c) w) := by
  have hb0 : Below w.heap.size w ((w.alloc (.cells #[.int .i64 (lo : Int), .int .i64 (hi : Int), .int .i64 (bk : Int)] 47)).alloc (.cells #[.int .i64 0, .int .i64 0, .int .i64 0] 47)) := ((Below.refl _ _).alloc (Nat.le_refl _) _).alloc (by simp) _
  have k0 := (Blk.new w 47 #[.int .i64 (lo : Int), .int .i64 (hi : Int), .int .i64 (bk : Int)]).alloc (.cells #[.int .i64 0, .int .i64 0, .int .i64 0] 47)
  have k1 := Blk.new (w.alloc (.cells #[.int .i64 (lo : Int), .int .i64 (hi : Int), .int .i64 (bk : Int)] 47)) 47 #[.int .i64 0, .int .i64 0, .int .i64 0]
  rw [show (w.alloc (.cells #[.int .i64 (lo : Int), .int .i64 (hi : Int), .int .i64 (bk : Int)] 47)).heap.size = w.heap.size + 1 from by simp] at k1
  have HI : Hid _ := refIsPair_any s (lo : Int) (hi : Int) (bk : Int) ((w.alloc (.cells #[.int .i64 (lo : Int), .int .i64 (hi : Int), .int .i64 (bk : Int)] 47)).alloc (.cells #[.int .i64 0, .int .i64 0, .int .i64 0] 47)) hn
  have HP : Hid (PairOk s.size (lo : Int) (hi : Int) (bk : Int)) := pairOk_nat hl hh hbk
  have HV : Hid (leftV (tx s) f lo hi bk c = .agg #[.int .i64 ((mvL (tx s) f c lo : Nat) : Int), .int .i64 ((mvL (tx s) f c hi : Nat) : Int), .int .i64 ((bk : Int) + (mvP (tx s) f c lo hi : Int))]) := by
    show leftV (tx s) f lo hi bk c = _
    unfold leftV; rw [Int.natCast_add]
  have l1 := mvP_le (tx s) f c lo hi
  have HM : Hid (∀ w, Calls Tryz.prog 108 #[.string s, .int .i64 (lo : Int), .int .i64 (hi : Int), .int .i64 (c : Int)] w fun e w' => e = .returned (.tuple #[.int .i64 ((mvL (tx s) f c lo : Nat) : Int), .int .i64 ((mvL (tx s) f c hi : Nat) : Int), .int .i64 ((mvP (tx s) f c lo hi : Nat) : Int)]) ∧ Below w.heap.size w w') := fun w => (moved_any s lo hi c w hn hl hh hc).mono (fun e w' ⟨f', F', he, hb⟩ => ⟨by rw [he, mvL_same F' F c lo (by rw [tx_length]; omega), mvL_same F' F c hi (by rw [tx_length]; omega), mvP_same F' F c lo hi hl (by rw [tx_length]; omega)], hb⟩)
  clear F
  generalize mvP (tx s) f c lo hi = P at *
  generalize mvL (tx s) f c lo = L at *
  generalize mvL (tx s) f c hi = U at *
  have d1 : ¬ (255 : Int) < (c : Int) := by omega
  go_enter Tryz.func76, Tryz.ntmps76
  go_wp2_with fail
  refine Calls.mono HI.out ?_
  clear HI
  rintro en w1 ⟨hres, hb1⟩
  have hl1 := k1.lt
  have hk2 := k1.below hb1 hl1
  have hk0 := k0.below hb1 (by omega)
  have hb2 := hb0.trans (hb1.mono hb0.size)
  clear k0 k1 hb0 hb1
  rcases hres with ⟨_, rfl⟩ | ⟨hp, _⟩
  case inr => exact absurd HP.out hp
  clear HP
  have a0 : w1.cell? ⟨w.heap.size, 0, none⟩ = some (.int .i64 (lo : Int)) := hk0.cell 0
  have a1 : w1.cell? ⟨w.heap.size, 1, none⟩ = some (.int .i64 (hi : Int)) := hk0.cell 1
  have hl2 := hk2.lt
  go_wp2_with fail
  refine Calls.mono (HM.out w1) ?_
  clear HM a0 a1
  rintro en w2 ⟨rfl, hb3⟩
  have hk3 := hk2.below hb3 hl2
  have hk03 := hk0.below hb3 (by omega)
  have hb4 := hb2.trans (hb3.mono hb2.size)
  clear hk2 hk0 hb2 hb3
  have a2 : w2.cell? ⟨w.heap.size, 2, none⟩ = some (.int .i64 (bk : Int)) := hk03.cell 2
  have hf0 := hk3.free 0
  have hf1 := hk3.free 1
  have hf2 := hk3.free 2
  have e0 := hk3.cell 0
  have e1 := hk3.cell 1
  have e2 := hk3.cell 2
  go_wp2
  exact bodyPost_ret (v := .tuple #[.agg #[.int .i64 (L : Int), .int .i64 (U : Int), .int .i64 ((bk : Int) + (P : Int))], .int .i64 0]) (results_cell_tmp_row (ty := 47) rfl _ _ (w.heap.size + 1) _ (.int .i64 0) rfl rfl (run_loadVar_row _ (w.heap.size + 1) 47 47 _ (0, 0) _ (((hk3.set 0 _).set 1 _).set 2 _) Tryz.underlying47 rfl infoPair)) rfl ⟨by rw [HV.out], ((hb4.setCell (by simp) _).setCell (by simp) _).setCell (by simp) _⟩
end Go.Proofs.YtkebgnpifmcmaabGreat

namespace Go.Proofs.YtkebgnpifmcmaabGreat
open Go.RowKit

set_option maxRecDepth 10000 in
set_option maxHeartbeats 2000000 in
theorem refRight_ok (s : ByteArray) (lo hi bk c : Nat) (w : World) (hn : s.size ≤ 2000) (hc : c < 256) (hl : lo ≤ hi) (hh : hi ≤ s.size + 1) (hbk : bk + (hi - lo) ≤ s.size + 1) (f2 : Nat → Nat) (F2 : IsSA (tx s).reverse f2) :
    Calls Tryz.prog 77 #[.string s, .agg #[.int .i64 (lo : Int), .int .i64 (hi : Int), .int .i64 (bk : Int)], .int .i64 (c : Int)] w (okRes (rightV (tx s).reverse f2 lo hi bk c) w) := by
  have hb0 : Below w.heap.size w ((w.alloc (.cells #[.int .i64 (lo : Int), .int .i64 (hi : Int), .int .i64 (bk : Int)] 47)).alloc (.cells #[.int .i64 0, .int .i64 0, .int .i64 0] 47)) := ((Below.refl _ _).alloc (Nat.le_refl _) _).alloc (by simp) _
  have k0 := (Blk.new w 47 #[.int .i64 (lo : Int), .int .i64 (hi : Int), .int .i64 (bk : Int)]).alloc (.cells #[.int .i64 0, .int .i64 0, .int .i64 0] 47)
  have k1 := Blk.new (w.alloc (.cells #[.int .i64 (lo : Int), .int .i64 (hi : Int), .int .i64 (bk : Int)] 47)) 47 #[.int .i64 0, .int .i64 0, .int .i64 0]
  rw [show (w.alloc (.cells #[.int .i64 (lo : Int), .int .i64 (hi : Int), .int .i64 (bk : Int)] 47)).heap.size = w.heap.size + 1 from by simp] at k1
  have HI : Hid _ := refIsPair_any s (lo : Int) (hi : Int) (bk : Int) ((w.alloc (.cells #[.int .i64 (lo : Int), .int .i64 (hi : Int), .int .i64 (bk : Int)] 47)).alloc (.cells #[.int .i64 0, .int .i64 0, .int .i64 0] 47)) hn
  have HP : Hid (PairOk s.size (lo : Int) (hi : Int) (bk : Int)) := pairOk_nat hl hh hbk
  have l1 := mvP_le (tx s).reverse f2 c bk (bk + hi - lo)
  have l2 := mvL_le (tx s).reverse f2 c (bk + hi - lo)
  have l3 := mvL_mono (tx s).reverse f2 c (show bk ≤ bk + hi - lo by omega)
  rw [List.length_reverse, tx_length] at l2
  have HV : Hid (rightV (tx s).reverse f2 lo hi bk c = .agg #[.int .i64 ((lo : Int) + (mvP (tx s).reverse f2 c bk (bk + hi - lo) : Int)), .int .i64 ((lo : Int) + (mvP (tx s).reverse f2 c bk (bk + hi - lo) : Int) + (mvL (tx s).reverse f2 c (bk + hi - lo) : Int) - (mvL (tx s).reverse f2 c bk : Int)), .int .i64 (mvL (tx s).reverse f2 c bk : Int)]) := by
    show rightV (tx s).reverse f2 lo hi bk c = _
    unfold rightV; rw [Int.natCast_add, Int.natCast_sub (by omega), Int.natCast_add, Int.natCast_add]
  have HM : Hid (∀ w, Calls Tryz.prog 108 #[.string (revS s), .int .i64 (bk : Int), .int .i64 ((bk + hi - lo : Nat) : Int), .int .i64 (c : Int)] w fun e w' => e = .returned (.tuple #[.int .i64 ((mvL (tx s).reverse f2 c bk : Nat) : Int), .int .i64 ((mvL (tx s).reverse f2 c (bk + hi - lo) : Nat) : Int), .int .i64 ((mvP (tx s).reverse f2 c bk (bk + hi - lo) : Nat) : Int)]) ∧ Below w.heap.size w w') := fun w => (moved_any (revS s) bk (bk + hi - lo) c w (by rw [revS_size]; exact hn) (by omega) (by rw [revS_size]; omega) hc).mono (fun e w' ⟨f', F', he, hb⟩ => by
      rw [tx_revS] at F' he
      refine ⟨?_, hb⟩
      rw [he, mvL_same F' F2 c bk (by rw [List.length_reverse, tx_length]; omega), mvL_same F' F2 c (bk + hi - lo) (by rw [List.length_reverse, tx_length]; omega), mvP_same F' F2 c bk (bk + hi - lo) (by omega) (by rw [List.length_reverse, tx_length]; omega)])
  have HB : Hid (∀ w, Calls Tryz.prog 109 #[.string s] w fun e w' => e = .returned (.string (revS s)) ∧ Below w.heap.size w w') := fun w => backwards_any s w hn
  clear F2
  generalize hX : bk + hi - lo = X at *
  obtain ⟨D, hDn⟩ : ∃ D, D = hi - lo := ⟨_, rfl⟩
  have hD : (hi : Int) - (lo : Int) = (D : Int) := by omega
  have HW2 : IntKind.i64.wrap ((bk : Int) + ((hi - lo : Nat) : Int)) = (X : Int) := by rw [wrapI_small (by omega) (by omega)]; omega
  generalize mvP (tx s).reverse f2 c bk X = P at *
  generalize mvL (tx s).reverse f2 c bk = L at *
  generalize mvL (tx s).reverse f2 c X = U at *
  generalize revS s = R at *
  have d1 : ¬ (255 : Int) < (c : Int) := by omega
  go_enter Tryz.func77, Tryz.ntmps77
  go_wp2_with fail
  refine Calls.mono HI.out ?_
  clear HI
  rintro en w1 ⟨hres, hb1⟩
  have hl1 := k1.lt
  have hk2 := k1.below hb1 hl1
  have hk0 := k0.below hb1 (by omega)
  have hb2 := hb0.trans (hb1.mono hb0.size)
  clear k0 k1 hb0 hb1
  rcases hres with ⟨_, rfl⟩ | ⟨hp, _⟩
  case inr => exact absurd HP.out hp
  clear HP
  have a0 : w1.cell? ⟨w.heap.size, 0, none⟩ = some (.int .i64 (lo : Int)) := hk0.cell 0
  have a1 : w1.cell? ⟨w.heap.size, 1, none⟩ = some (.int .i64 (hi : Int)) := hk0.cell 1
  have a2 : w1.cell? ⟨w.heap.size, 2, none⟩ = some (.int .i64 (bk : Int)) := hk0.cell 2
  have hl2 := hk2.lt
  go_upto_region 5 with fail
  have hk2' : Blk w1.drew (w.heap.size + 1) 47 #[.int .i64 0, .int .i64 0, .int .i64 0] := hk2
  have hk0' : Blk w1.drew w.heap.size 47 #[.int .i64 (lo : Int), .int .i64 (hi : Int), .int .i64 (bk : Int)] := hk0
  have hb2' : Below w.heap.size w w1.drew := hb2.drew
  go_region_law (first
    | (refine step_calls (args := #[.string s]) rfl rfl enterBackwards (by simp [Act.eval, Act.put]) (HB.out w1.drew) ?_; rintro en w2 ⟨rfl, hb3⟩; refine ⟨_, rfl, ?_⟩; have b0 : w2.cell? ⟨w.heap.size, 0, none⟩ = some (.int .i64 (lo : Int)) := (hk0'.below hb3 hk0'.lt).cell 0; have b2 : w2.cell? ⟨w.heap.size, 2, none⟩ = some (.int .i64 (bk : Int)) := (hk0'.below hb3 hk0'.lt).cell 2; have hk3 := hk2'.below hb3 hk2'.lt; have hk03 := hk0'.below hb3 hk0'.lt; have hb4 := hb2'.trans (hb3.mono hb2'.size))
    | (refine step_calls (args := #[.string R, .int .i64 (bk : Int), .int .i64 (X : Int), .int .i64 (c : Int)]) rfl rfl enterMoved (by simp [Act.eval, Act.put]) (HM.out w2) ?_; rintro en w3 ⟨rfl, hb5⟩; refine ⟨_, rfl, ?_⟩; have c0 : w3.cell? ⟨w.heap.size, 0, none⟩ = some (.int .i64 (lo : Int)) := (hk03.below hb5 hk03.lt).cell 0; have hk4 := hk3.below hb5 hk3.lt; have hb6 := hb4.trans (hb5.mono hb4.size); have hf0 := hk4.free 0; have hf1 := hk4.free 1; have hf2 := hk4.free 2; have e0 := hk4.cell 0; have e1 := hk4.cell 1; have e2 := hk4.cell 2))
  all_goals go_wp2
  all_goals exact bodyPost_ret (v := .tuple #[.agg #[.int .i64 ((lo : Int) + (P : Int)), .int .i64 ((lo : Int) + (P : Int) + (U : Int) - (L : Int)), .int .i64 (L : Int)], .int .i64 0]) (results_cell_tmp_row (ty := 47) rfl _ _ (w.heap.size + 1) _ (.int .i64 0) rfl rfl (run_loadVar_row _ (w.heap.size + 1) 47 47 _ (0, 0) _ (((hk4.set 0 _).set 1 _).set 2 _) Tryz.underlying47 rfl infoPair)) rfl ⟨by rw [HV.out], ((hb6.setCell (by simp) _).setCell (by simp) _).setCell (by simp) _⟩
end Go.Proofs.YtkebgnpifmcmaabGreat
