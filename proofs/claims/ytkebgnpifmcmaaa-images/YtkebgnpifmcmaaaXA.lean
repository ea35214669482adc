import Derived.Test.YtkebgnpifmcmaaaWK
import Derived.Test.YtkebgnpifmcmaaaXP
import Derived.Laws.BitsAllLaws
namespace Go.Proofs.Ytkebgnpifmcmaaa
open Go.RowKit

/-- A block, whole. -/
def Blk (w : World) (g : Nat) (T : TypeId) (cs : Array Value) : Prop := w.heap[g]? = some (.cells cs T (0, 0))
theorem Blk.lt {w : World} {g : Nat} {T : TypeId} {cs : Array Value} (h : Blk w g T cs) : g < w.heap.size := (Array.getElem?_eq_some_iff.1 h).1
theorem Blk.cell {w : World} {g : Nat} {T : TypeId} {cs : Array Value} (h : Blk w g T cs) (j : Nat) : w.cell? ⟨g, j, none⟩ = cs[j]? := cell_of_row w g j _ _ _ h
theorem Blk.free {w : World} {g : Nat} {T : TypeId} {cs : Array Value} (h : Blk w g T cs) (j : Nat) : w.frozen? ⟨g, j, none⟩ = false := frozen_of_row w g j _ _ h
theorem Blk.block {w w' : World} {g : Nat} {T : TypeId} {cs : Array Value} (h : Blk w g T cs) (hb : w'.heap[g]? = w.heap[g]?) : Blk w' g T cs := hb.trans h
theorem Blk.below {w w' : World} {B g : Nat} {T : TypeId} {cs : Array Value} (h : Blk w g T cs) (hb : Below B w w') (hlt : g < B) : Blk w' g T cs := h.block (hb.block g hlt)
theorem Blk.alloc {w : World} {g : Nat} {T : TypeId} {cs : Array Value} (h : Blk w g T cs) (o : Obj) : Blk (w.alloc o) g T cs := h.block (Below.heap_alloc w o g h.lt)
theorem Blk.new (w : World) (T : TypeId) (cs : Array Value) : Blk (w.alloc (.cells cs T)) w.heap.size T cs := heap_alloc_new w _
theorem Blk.grown {w w' : World} {row : Option Nat} {g : Nat} {T : TypeId} {cs : Array Value} (h : Blk w g T cs) (hg : w.grownBy w' row) (hne : some g ≠ row) : Blk w' g T cs := h.block (hg.block g h.lt hne)
theorem Blk.set {w : World} {g : Nat} {T : TypeId} {cs : Array Value} (h : Blk w g T cs) (j : Nat) (u : Value) : Blk (w.setCell ⟨g, j, none⟩ u) g T (cs.setIfInBounds j u) := heap_setCell_same w g j cs T u h
theorem Blk.setOther {w : World} {g : Nat} {T : TypeId} {cs : Array Value} (h : Blk w g T cs) {a : Addr} (ha : g ≠ a.block) (u : Value) : Blk (w.setCell a u) g T cs := h.block (Below.heap_setCell w a u g ha)
theorem Blk.setRow {w : World} {g : Nat} {T : TypeId} {cs : Array Value} (h : Blk w g T cs) (cs' : Array Value) : Blk (w.setRow g cs') g T cs' := setRow_heap w g _ _ _ _ h
theorem Blk.setRowOther {w : World} {g g' : Nat} {T : TypeId} {cs : Array Value} (h : Blk w g T cs) (hne : g ≠ g') (cs' : Array Value) : Blk (w.setRow g' cs') g T cs := h.block (setRow_other w g' g cs' hne)
theorem Row.setRowOther {w : World} {g g' : Nat} {T : TypeId} {n : Nat} {F : Nat → Value} (h : Row w g T n F) (hne : g ≠ g') (cs' : Array Value) : Row (w.setRow g' cs') g T n F := h.block (setRow_other w g' g cs' hne)

theorem packedSize_any (n : Nat) (w : World) (hn : n ≤ 100000) : Calls Try.prog 98 #[.int .i64 (n : Int)] w fun e w' => e = .returned (.int .i64 (((n + 7) / 8 : Nat) : Int)) ∧ w' = w := by
  have h : Hid ((((n + 7) / 8 : Nat) : Int) = ((n : Int) + 8 - 1) / 8) := by show (((n + 7) / 8 : Nat) : Int) = _; omega
  go_enter Try.func98, Try.ntmps98
  go_wp2
  go_ret
  exact ⟨by rw [h.out]; rfl, rfl⟩

theorem infoTr : (Try.prog.info? 92).map (·.size) = some 2 := by kernel_rfl

set_option maxRecDepth 10000 in
theorem transformed_any (s : ByteArray) (w : World) (hn : s.size ≤ 2000) : Calls Try.prog 61 #[.string s] w fun e w' => ∃ f, IsSA (tx s) f ∧ e = .returned (.agg #[.string (bs (pre (tx s) f (s.size + 1))), .int .i64 ((endOf f (s.size + 1) : Nat) : Int)]) ∧ Below w.heap.size w w' := by
  have hk0 := Blk.new w 92 #[.string { data := #[] }, .int .i64 0]
  go_enter Try.func61, Try.ntmps61
  go_wp2_with fail
  refine (of_any s _ hn).mono ?_
  rintro e w1 ⟨f, hf, rfl, hb⟩
  have hk1 := hk0.below hb (by simp)
  have hb1 : Below w.heap.size w w1 := ((Below.refl _ _).alloc (Nat.le_refl _) _).trans (hb.mono (by simp))
  clear hk0 hb
  have hc0 : w1.cell? ⟨w.heap.size, 0, none⟩ = some (.string { data := #[] }) := hk1.cell 0
  have hc1 : w1.cell? ⟨w.heap.size, 1, none⟩ = some (.int .i64 0) := hk1.cell 1
  have hf0 := hk1.free 0
  have hf1 := hk1.free 1
  go_wp2
  exact bodyPost_ret (v := .agg #[.string (bs (pre (tx s) f (s.size + 1))), .int .i64 ((endOf f (s.size + 1) : Nat) : Int)]) (results_cell_row (P := Try.prog) rfl _ _ w.heap.size 92 _ (0, 0) _ rfl ((hk1.set 0 _).set 1 _) Try.underlying92 rfl infoTr) rfl ⟨f, hf, rfl, (hb1.setCell (Nat.le_refl _) _).setCell (Nat.le_refl _) _⟩

theorem bit_val (x r : Nat) (hx : x < 2 ^ 64) : (bits BinOp.and IntKind.u64 ((x : Int) / 2 ^ r) 1 == 1) = x.testBit r := by
  have h1 : ((x : Int) / 2 ^ r) = ((x / 2 ^ r : Nat) : Int) := by simp
  have h2 : x / 2 ^ r < 18446744073709551616 := Nat.lt_of_le_of_lt (Nat.div_le_self _ _) (by simpa using hx)
  rw [h1, show (1 : Int) = ((1 : Nat) : Int) from rfl, u64_and_nat _ _ h2 (by omega), Nat.testBit, Nat.shiftRight_eq_div_pow, Nat.and_comm]
  have h3 : 1 &&& (x / 2 ^ r) = (x / 2 ^ r) % 2 := by rw [Nat.and_comm, show (1 : Nat) = 2 ^ 1 - 1 from rfl, Nat.and_two_pow_sub_one_eq_mod]
  rw [h3]
  rcases Nat.mod_two_eq_zero_or_one (x / 2 ^ r) with h | h <;> rw [h] <;> rfl

theorem bit_any (sz : Int) (gw cw nw i : Nat) (x : Value) (W : Nat → Nat) (w : World) (hi : i < 64 * nw) (hn : i ≤ 100000) (hW : W (i / 64) < 2 ^ 64) (hr : Row w gw 142 nw (fun k => .int .u64 (W k : Int))) : Calls Try.prog 100 #[.agg #[.int .i64 sz, .slice (some ⟨gw, 0, none⟩) nw cw, x], .int .i64 (i : Int)] w fun e w' => e = .returned (.bool ((W (i / 64)).testBit (i % 64))) ∧ Below w.heap.size w w' := by
  have hc : ∀ o, (w.alloc o).cell? ⟨gw, i / 64, none⟩ = some (.int .u64 (W (i / 64) : Int)) := fun o => (hr.alloc o).cell (by omega)
  have hv : Hid _ := bit_val (W (i / 64)) (i % 64) hW
  go_enter Try.func100, Try.ntmps100
  go_wp2
  go_ret
  exact ⟨by rw [← hv.out]; rfl, (Below.refl _ _).alloc (Nat.le_refl _) _⟩

set_option maxHeartbeats 1000000 in
theorem onesCount_any (x : Nat) (w : World) (hx : x < 2 ^ 64) : Calls Try.prog 104 #[.int .u64 (x : Int)] w fun e w' => e = .returned (.int .i64 ((cntB (fun i => x.testBit i) 64 : Nat) : Int)) ∧ w' = w := by
  obtain ⟨C, F, G, hC, hCl, hF, hFl, hG, hGl, hR⟩ := pop_steps x hx
  have HR : Hid _ := hR
  clear hR
  have hx' : x < 18446744073709551616 := by simpa using hx
  have q0 : Hid (bits BinOp.and IntKind.u64 ((x : Int) / 2) 6148914691236517205 + bits BinOp.and IntKind.u64 (x : Int) 6148914691236517205 = (C : Int)) := by
    show bits BinOp.and IntKind.u64 ((x : Int) / 2) 6148914691236517205 + _ = _
    rw [show (x : Int) / 2 = ((x / 2 : Nat) : Int) from by omega, show (6148914691236517205 : Int) = ((6148914691236517205 : Nat) : Int) from rfl, u64_and_nat _ _ (by omega) (by omega), u64_and_nat _ _ hx' (by omega), ← hC]; omega
  have q1 : Hid (IntKind.u64.wrap (C : Int) = (C : Int)) := by show IntKind.u64.wrap (C : Int) = _; simp [IntKind.wrap, IntKind.bits, IntKind.signed]; omega
  have q2 : Hid (bits BinOp.and IntKind.u64 ((C : Int) / 4) 3689348814741910323 + bits BinOp.and IntKind.u64 (C : Int) 3689348814741910323 = (F : Int)) := by
    show bits BinOp.and IntKind.u64 ((C : Int) / 4) 3689348814741910323 + _ = _
    rw [show (C : Int) / 4 = ((C / 4 : Nat) : Int) from by omega, show (3689348814741910323 : Int) = ((3689348814741910323 : Nat) : Int) from rfl, u64_and_nat _ _ (by omega) (by omega), u64_and_nat _ _ hCl (by omega), ← hF]; omega
  have q3 : Hid (IntKind.u64.wrap (F : Int) = (F : Int)) := by show IntKind.u64.wrap (F : Int) = _; simp [IntKind.wrap, IntKind.bits, IntKind.signed]; omega
  have q4 : Hid (IntKind.u64.wrap ((F : Int) / 16 + (F : Int)) = ((F / 16 + F : Nat) : Int)) := by show IntKind.u64.wrap ((F : Int) / 16 + (F : Int)) = _; simp [IntKind.wrap, IntKind.bits, IntKind.signed]; omega
  have q5 : Hid (bits BinOp.and IntKind.u64 ((F / 16 + F : Nat) : Int) 1085102592571150095 = (G : Int)) := by
    show bits BinOp.and IntKind.u64 ((F / 16 + F : Nat) : Int) 1085102592571150095 = _
    rw [show (1085102592571150095 : Int) = ((1085102592571150095 : Nat) : Int) from rfl, u64_and_nat _ _ (by omega) (by omega), hG]
  have q6 : Hid (IntKind.u64.wrap ((G : Int) + (G : Int) / 256) = ((G + G / 256 : Nat) : Int)) := by show IntKind.u64.wrap ((G : Int) + (G : Int) / 256) = _; simp [IntKind.wrap, IntKind.bits, IntKind.signed]; omega
  have hHl : G + G / 256 < 2305843009213693952 := by omega
  generalize G + G / 256 = Hh at *
  have q7 : Hid (IntKind.u64.wrap ((Hh : Int) + (Hh : Int) / 65536) = ((Hh + Hh / 65536 : Nat) : Int)) := by show IntKind.u64.wrap ((Hh : Int) + (Hh : Int) / 65536) = _; simp [IntKind.wrap, IntKind.bits, IntKind.signed]; omega
  have hIl : Hh + Hh / 65536 < 4611686018427387904 := by omega
  generalize Hh + Hh / 65536 = Ii at *
  have q8 : Hid (IntKind.u64.wrap ((Ii : Int) + (Ii : Int) / 4294967296) = ((Ii + Ii / 4294967296 : Nat) : Int)) := by show IntKind.u64.wrap ((Ii : Int) + (Ii : Int) / 4294967296) = _; simp [IntKind.wrap, IntKind.bits, IntKind.signed]; omega
  have hJl : Ii + Ii / 4294967296 < 9223372036854775808 := by omega
  generalize Ii + Ii / 4294967296 = Jj at *
  clear hC hF hG hHl hIl
  go_enter Try.func104, Try.ntmps104
  go_wp2
  go_ret
  rw [q0.out, q1.out, q2.out, q3.out, q4.out, q5.out, q6.out, q7.out, q8.out]
  refine ⟨?_, rfl⟩
  show Ending.returned (.int .i64 (bits BinOp.and IntKind.i64 (wrap64 (Jj : Int)) 127)) = _
  have e1 : wrap64 (Jj : Int) = (Jj : Int) := by unfold wrap64; omega
  have e2 : bits BinOp.and IntKind.i64 (Jj : Int) 127 = ((Jj % 128 : Nat) : Int) := by
    rw [show (127 : Int) = ((127 : Nat) : Int) from rfl, (bits_nat .i64 63 (by decide) (fun n h1 h2 => by simp [IntKind.wrap, IntKind.bits, IntKind.signed]; omega) Jj 127 hJl (by omega)).1]
    rw [show (127 : Nat) = 2 ^ 7 - 1 from rfl, Nat.and_two_pow_sub_one_eq_mod]
  rw [e1, e2, HR.out]
end Go.Proofs.Ytkebgnpifmcmaaa
