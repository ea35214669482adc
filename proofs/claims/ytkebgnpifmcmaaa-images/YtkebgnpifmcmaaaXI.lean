import Derived.Test.YtkebgnpifmcmaaaXH
namespace Go.Proofs.Ytkebgnpifmcmaaa
open Go.RowKit

/-- A side, behind a pointer. -/
def SideP (w : World) (g off : Nat) (s : ByteArray) (e : Nat) : Prop :=
  ∃ v, w.cell? ⟨g, off, none⟩ = some v ∧ w.cell? ⟨g, off + 1, none⟩ = some (.int .i64 (e : Int)) ∧ g < w.heap.size ∧ Ctr w v s
theorem cell_below {w w' : World} {g off : Nat} {v : Value} (h : w.cell? ⟨g, off, none⟩ = some v) (hb : Below w.heap.size w w') : w'.cell? ⟨g, off, none⟩ = some v := by
  have hlt : g < w.heap.size := World.block_lt_of_cell? w ⟨g, off, none⟩ h
  rw [← h]
  simp only [World.cell?, hb.block g hlt]
theorem SideP.below {w w' : World} {g off : Nat} {s : ByteArray} {e : Nat} (h : SideP w g off s e) (hb : Below w.heap.size w w') : SideP w' g off s e := by
  obtain ⟨v, h1, h2, h3, h4⟩ := h
  exact ⟨v, cell_below h1 hb, cell_below h2 hb, Nat.lt_of_lt_of_le h3 hb.size, h4.below hb⟩

/-- A method of an interface value, found. -/
def Meth (t : TypeId) (x : Value) (name : String) (k : Nat) : Prop := (∀ w, (method 273 t x name).run Try.prog w = .ok (k, x) w) ∧ ∀ args w, (callFunc k args).run Try.prog w = .ok (.enter k args) w
/-- The call of a method of an interface, in a region that draws its order. -/
theorem step_meth {ops : Array Oper} {o : Oper} {a : Act} {w : World} {K : Act → World → Prop} {Q : Exit → Act → World → Prop} {E : Prop} {recv : Operand} {name : String} {ags : Array Operand} {ts : Array TypeId} {args : Array Value} {t : TypeId} {x : Value} {f : Nat} {R : Ending → World → Prop}
    (hg : o.guard = none) (hop : o.op = Op.call { callee := Callee.invoke recv name, args := ags, argTypes := ts }) (hrv : a.eval recv = .iface t x) (hm : Meth t x name f) (hev : ags.map a.eval = args)
    (hC : Calls Try.prog f (#[x] ++ args) w R) (hK : ∀ e w', R e w' → ∃ v, e = .returned v ∧ K (a.put o.dst v) w') :
    if Region.wanted o (yielded ops a.tmps) = true then Oper.wp Try.prog o a w K Q else E := by
  have hw : Region.wanted o (yielded ops a.tmps) = true := by simp [Region.wanted, hg]
  rw [if_pos hw]
  unfold Oper.wp
  have hext : (#[Value.iface t x] ++ args).extract 1 (#[Value.iface t x] ++ args).size = args := by
    cases args; simp
  have h0 : (#[Value.iface t x] ++ args)[0]? = some (Value.iface t x) := by cases args; simp
  have hD : Try.prog.types.size + Made.depth = 273 := by kernel_rfl
  have hp : ∀ W, (program).run Try.prog W = .ok Try.prog W := fun _ => rfl
  have hrun : (execOp a.eval o).run Try.prog w = .ok (.enter f (#[x] ++ args)) w := by
    simp only [execOp, hop, resolve, invoke, hev, hrv, Sem.run_bind, Sem.run_pure, Result.andThen, h0, hext, callMethod, hp, hD, hm.1, hm.2]
  rw [hrun, Oper.upon_enter]
  refine hC.mono (fun e w' h => ?_)
  obtain ⟨v, rfl, hk⟩ := hK e w' h
  exact hk
theorem m_fs (a : Addr) : Meth 133 (.pointer (some a)) "Size" 129 := ⟨fun _ => by kernel_rfl, Go.MuLone.run_callFunc_enter (P := Try.prog) Try.func129 (by kernel_rfl) rfl⟩
theorem m_fa (a : Addr) : Meth 133 (.pointer (some a)) "At" 127 := ⟨fun _ => by kernel_rfl, Go.MuLone.run_callFunc_enter (P := Try.prog) Try.func127 (by kernel_rfl) rfl⟩
theorem m_fc (a : Addr) : Meth 133 (.pointer (some a)) "Count" 128 := ⟨fun _ => by kernel_rfl, Go.MuLone.run_callFunc_enter (P := Try.prog) Try.func128 (by kernel_rfl) rfl⟩
theorem m_ms (a : Addr) : Meth 135 (.pointer (some a)) "Size" 134 := ⟨fun _ => by kernel_rfl, Go.MuLone.run_callFunc_enter (P := Try.prog) Try.func134 (by kernel_rfl) rfl⟩
theorem m_ma (a : Addr) : Meth 135 (.pointer (some a)) "At" 132 := ⟨fun _ => by kernel_rfl, Go.MuLone.run_callFunc_enter (P := Try.prog) Try.func132 (by kernel_rfl) rfl⟩
theorem m_mc (a : Addr) : Meth 135 (.pointer (some a)) "Count" 133 := ⟨fun _ => by kernel_rfl, Go.MuLone.run_callFunc_enter (P := Try.prog) Try.func133 (by kernel_rfl) rfl⟩

/-- What a counter does, of whichever kind. -/
theorem Ctr.ops {w : World} {v : Value} {s : ByteArray} (h : Ctr w v s) (hn : s.size ≤ 2000) : ∃ t x kS kA kC, v = .iface t x ∧ Meth t x "Size" kS ∧ Meth t x "At" kA ∧ Meth t x "Count" kC ∧
    Hid (∀ w', Below w.heap.size w w' → Calls Try.prog kS #[x] w' fun e w2 => e = .returned (.int .i64 (s.size : Int)) ∧ w2 = w') ∧
    Hid (∀ w' row (hr : row < s.size), Below w.heap.size w w' → Calls Try.prog kA #[x, .int .i64 (row : Int)] w' fun e w2 => e = .returned (.int .u8 ((s[row]).toNat : Int)) ∧ Below w'.heap.size w' w2) ∧
    Hid (∀ w' (c row : Nat), c < 256 → row ≤ s.size → Below w.heap.size w w' → Calls Try.prog kC #[x, .int .u8 (c : Int), .int .i64 (row : Int)] w' fun e w2 => e = .returned (.tuple #[.int .i64 ((cnt (byN s) c row : Nat) : Int), .int .i64 ((less (byN s) c row : Nat) : Int)]) ∧ Below w'.heap.size w' w2) := by
  rcases h with ⟨_, g, rfl, h⟩ | ⟨_, g, rfl, h⟩
  · exact ⟨_, _, _, _, _, rfl, m_fs _, m_fa _, m_fc _, fun w' hb => few_size w' g s _ (h.below hb), fun w' row hr hb => few_at w' g row s (h.below hb) hn hr, fun w' c row hc hr hb => few_count w' g c row s (h.below hb) hn hr hc⟩
  · exact ⟨_, _, _, _, _, rfl, m_ms _, m_ma _, m_mc _, fun w' hb => many_size w' g s (h.below hb), fun w' row hr hb => (many_at w' g row s (h.below hb) hr).mono (fun e w2 h => ⟨h.1, h.2 ▸ Below.refl _ _⟩), fun w' c row hc hr hb => many_count w' g c row s (h.below hb) hn hr hc⟩

set_option maxRecDepth 10000 in
theorem side_rows (w : World) (g off e : Nat) (s : ByteArray) (h : SideP w g off s e) (hn : s.size ≤ 2000) : Calls Try.prog 68 #[.pointer (some ⟨g, off, none⟩)] w fun en w' => en = .returned (.int .i64 ((s.size + 1 : Nat) : Int)) ∧ w' = w := by
  obtain ⟨v, h1, h2, h3, h4⟩ := h
  obtain ⟨t, x, kS, kA, kC, rfl, ⟨hm, he⟩, _, _, HS, _, _⟩ := h4.ops hn
  clear h4
  go_enter Try.func68, Try.ntmps68
  go_wp2_with fail
  refine (HS.out w (Below.refl _ _)).mono ?_
  rintro en w1 ⟨rfl, rfl⟩
  go_wp2
  go_ret
  exact ⟨by rw [Int.natCast_add]; rfl, rfl⟩

/-- Rows ahead of a row, that of the END left out. -/
theorem idxOf (e r : Nat) : idx e r = if e < r then r - 1 else r := rfl

/-- How many rows ahead of a row have less than c, or the END. -/
def lessE (b : Nat → Nat) (e c row : Nat) : Nat := less b c (idx e row) + (if e < row then 1 else 0)
theorem lessE_pos {b : Nat → Nat} {e c row : Nat} (h : e < row) : lessE b e c row = less b c (row - 1) + 1 := by rw [lessE, idxOf, if_pos h, if_pos h]
theorem lessE_neg {b : Nat → Nat} {e c row : Nat} (h : ¬ e < row) : lessE b e c row = less b c row := by rw [lessE, idxOf, if_neg h, if_neg h]; rfl

set_option maxRecDepth 10000 in
theorem side_counted (w : World) (g off e row : Nat) (s : ByteArray) (h : SideP w g off s e) (hn : s.size ≤ 2000) (hr : row ≤ s.size + 1) : Calls Try.prog 87 #[.pointer (some ⟨g, off, none⟩), .int .i64 (row : Int)] w fun en w' => en = .returned (.int .i64 ((idx e row : Nat) : Int)) ∧ w' = w := by
  obtain ⟨v, h1, h2, h3, h4⟩ := h
  clear h4
  by_cases hlt : e < row
  · have hx : Hid (idx e row = row - 1) := by show idx e row = row - 1; rw [idxOf, if_pos hlt]
    have hq1 : (row : Int) - 1 = ((row - 1 : Nat) : Int) := by omega
    go_enter Try.func87, Try.ntmps87
    go_wp2
    go_ret
    exact ⟨by rw [hx.out, ← hq1]; rfl, rfl⟩
  · have hx : Hid (idx e row = row) := by show idx e row = row; rw [idxOf, if_neg hlt]
    go_enter Try.func87, Try.ntmps87
    go_wp2
    go_ret
    exact ⟨by rw [hx.out]; rfl, rfl⟩

theorem enterCounted (args : Array Value) (w : World) : (callFunc 87 args).run Try.prog w = .ok (.enter 87 args) w := Go.MuLone.run_callFunc_enter (P := Try.prog) Try.func87 (by kernel_rfl) rfl args w

set_option maxRecDepth 10000 in
set_option maxHeartbeats 400000 in
theorem side_rank (w : World) (g off e c row : Nat) (s : ByteArray) (h : SideP w g off s e) (hn : s.size ≤ 2000) (he2 : e ≤ s.size) (hc : c < 256) (hr : row ≤ s.size + 1) : Calls Try.prog 69 #[.pointer (some ⟨g, off, none⟩), .int .u8 (c : Int), .int .i64 (row : Int)] w fun en w' => en = .returned (.tuple #[.int .i64 ((cnt (byN s) c (idx e row) : Nat) : Int), .int .i64 ((lessE (byN s) e c row : Nat) : Int)]) ∧ Below w.heap.size w w' := by
  have HCO : Hid _ := side_counted w.drew g off e row s (h.below (Below.refl _ _).drew) hn hr
  obtain ⟨v, h1, h2, h3, h4⟩ := h
  obtain ⟨t, x, kS, kA, kC, rfl, _, _, hm, _, _, HC⟩ := h4.ops hn
  clear h4
  have hix : idx e row ≤ s.size := by rw [idxOf]; split <;> omega
  have HCC : Hid _ := HC.out w.drew c (idx e row) hc hix (Below.refl _ _).drew
  have HL : Hid (lessE (byN s) e c row = less (byN s) c (idx e row) + (if e < row then 1 else 0)) := rfl
  have hle1 := less_le (byN s) c (idx e row)
  clear HC
  have h1' : w.drew.cell? ⟨g, off, none⟩ = some (.iface t x) := h1
  have h2' : w.drew.cell? ⟨g, off + 1, none⟩ = some (.int .i64 (e : Int)) := h2
  generalize idx e row = I at *
  generalize less (byN s) c I = LE at *
  generalize lessE (byN s) e c row = LR at *
  go_enter Try.func69, Try.ntmps69
  go_upto_region 1 with fail
  go_region_law (first
    | (refine step_calls (args := #[.pointer (some ⟨g, off, none⟩), .int .i64 (row : Int)]) rfl rfl enterCounted (by simp [Act.eval, Act.put]) HCO.out ?_; rintro en w1 ⟨rfl, rfl⟩; refine ⟨_, rfl, ?_⟩)
    | (refine step_meth (args := #[.int .u8 (c : Int), .int .i64 (I : Int)]) rfl rfl rfl hm (by simp [Act.eval, Act.put]) HCC.out ?_; rintro en w2 ⟨rfl, hb⟩; refine ⟨_, rfl, ?_⟩; have h3' := cell_below h2' hb))
  all_goals
    have hb' : Below w.heap.size w w2 := (Below.refl w.heap.size w).drew.trans hb
    by_cases hlt : e < row
    · have HL2 : Hid (LR = LE + 1) := by show LR = LE + 1; rw [HL.out, if_pos hlt]
      clear HL
      go_wp2
      go_ret2
      exact ⟨by rw [HL2.out, Int.natCast_add]; rfl, hb'⟩
    · have HL2 : Hid (LR = LE) := by show LR = LE; rw [HL.out, if_neg hlt]; rfl
      clear HL
      go_wp2
      go_ret2
      exact ⟨by rw [HL2.out]; rfl, hb'⟩

set_option maxRecDepth 10000 in
theorem side_first (w : World) (g off e c : Nat) (s : ByteArray) (h : SideP w g off s e) (hn : s.size ≤ 2000) (he2 : e ≤ s.size) (hc : c < 256) : Calls Try.prog 88 #[.pointer (some ⟨g, off, none⟩), .int .u8 (c : Int)] w fun en w' => en = .returned (.int .i64 ((1 + less (byN s) c s.size : Nat) : Int)) ∧ Below w.heap.size w w' := by
  have hx : Hid (lessE (byN s) e c (s.size + 1) = 1 + less (byN s) c s.size) := by
    show lessE (byN s) e c (s.size + 1) = _
    rw [lessE_pos (by omega), Nat.add_sub_cancel]; omega
  go_enter Try.func88, Try.ntmps88
  go_wp2_with fail
  refine (side_rows w g off e s h hn).mono ?_
  rintro en w1 ⟨rfl, rfl⟩
  go_wp2_with fail
  refine (side_rank w1 g off e c (s.size + 1) s h hn he2 hc (Nat.le_refl _)).mono ?_
  rintro en w2 ⟨rfl, hb⟩
  rw [hx.out]
  go_wp2
  go_ret
  exact ⟨rfl, hb⟩

set_option maxRecDepth 10000 in
set_option maxHeartbeats 400000 in
theorem side_ahead (w : World) (g off e row : Nat) (s : ByteArray) (h : SideP w g off s e) (hn : s.size ≤ 2000) (he2 : e ≤ s.size) (hr : row ≤ s.size) (_hne : row ≠ e) (hat : idx e row < s.size) : Calls Try.prog 66 #[.pointer (some ⟨g, off, none⟩), .int .i64 (row : Int)] w fun en w' => en = .returned (.tuple #[.int .u8 ((s[idx e row]).toNat : Int), .int .i64 ((1 + rk (byN s) s.size (idx e row) : Nat) : Int)]) ∧ Below w.heap.size w w' := by
  obtain ⟨v, h1, h2, h3, h4⟩ := id h
  obtain ⟨t, x, kS, kA, kC, rfl, _, hm, _, _, HA, _⟩ := h4.ops hn
  clear h4
  have hby := (s[idx e row]).toNat_lt
  have HR : Hid (1 + less (byN s) (s[idx e row]).toNat s.size + cnt (byN s) (s[idx e row]).toNat (idx e row) = 1 + rk (byN s) s.size (idx e row)) := by
    show 1 + less (byN s) (s[idx e row]).toNat s.size + cnt (byN s) (s[idx e row]).toNat (idx e row) = _
    rw [rk, byN_lt s _ hat]; omega
  have hl1 := less_le (byN s) (s[idx e row]).toNat s.size
  have hl2 := cnt_le (byN s) (s[idx e row]).toNat (idx e row)
  have HAT := HA.out w.drew (idx e row) hat (Below.refl _ _).drew
  have h1' : w.drew.cell? ⟨g, off, none⟩ = some (.iface t x) := h1
  have HATC : Hid _ := HAT
  clear HAT HA
  have HCO : Hid _ := side_counted w.drew g off e row s (h.below (Below.refl _ _).drew) hn (by omega)
  have hrank := fun w' hb c hc => side_rank w' g off e c row s (SideP.below h hb) hn he2 hc (by omega)
  have HRK : Hid _ := hrank
  clear hrank
  have hfirst := fun w' hb c hc => side_first w' g off e c s (SideP.below h hb) hn he2 hc
  have HF : Hid _ := hfirst
  clear hfirst
  generalize hI : idx e row = I at *
  generalize hX : s[I] = X at *
  clear hX hI
  go_enter Try.func66, Try.ntmps66
  go_upto_region 1 with fail
  go_region_law (first
    | (refine step_calls (args := #[.pointer (some ⟨g, off, none⟩), .int .i64 (row : Int)]) rfl rfl enterCounted (by simp [Act.eval, Act.put]) HCO.out ?_; rintro en w1 ⟨rfl, rfl⟩; refine ⟨_, rfl, ?_⟩)
    | (refine step_meth (args := #[.int .i64 (I : Int)]) rfl rfl rfl hm (by simp [Act.eval, Act.put]) HATC.out ?_; rintro en w1 ⟨rfl, hb1'⟩; refine ⟨_, rfl, ?_⟩))
  all_goals
    have hb1 : Below w.heap.size w w1 := (Below.refl w.heap.size w).drew.trans hb1'
    go_wp2_with fail
    refine (HRK.out w1 hb1 X.toNat hby).mono ?_
    rintro en w2 ⟨rfl, hb2⟩
    have hb12 := hb1.trans (hb2.mono hb1.size)
    go_wp2_with fail
    refine (HF.out w2 hb12 X.toNat hby).mono ?_
    rintro en w3 ⟨rfl, hb3⟩
    go_wp2
    go_ret2
    exact ⟨by rw [← HR.out]; simp, hb12.trans (hb3.mono hb12.size)⟩
end Go.Proofs.Ytkebgnpifmcmaaa
