import Derived.Test.YtbnllikpgckjjaaXH
namespace Go.Proofs.Ytbnllikpgckjjaa
open Go.RowKit

/-- A side, behind a pointer. -/
def SideP (w : World) (g off : Nat) (s : ByteArray) (e : Nat) : Prop :=
  ∃ v, w.cell? ⟨g, off, none⟩ = some v ∧ w.cell? ⟨g, off + 1, none⟩ = some (.int .i64 (e : Int)) ∧ g < w.heap.size ∧ Ctr w v s
theorem cell_below {w w' : World} {g off : Nat} {v : Value} (h : w.cell? ⟨g, off, none⟩ = some v) (hb : Below w.heap.size w w') : w'.cell? ⟨g, off, none⟩ = some v := by
  have hlt : g < w.heap.size := World.block_lt_of_cell? w ⟨g, off, none⟩ h
  rw [← h]
  simp only [World.cell?, hb.block g hlt]
theorem SideP.below {w w' : World} {g off : Nat} {s : ByteArray} {e : Nat} (h : SideP w g off s e) (hb : Below w.heap.size w w') : SideP w' g off s e := by
  obtain ⟨v, h1, h2, h3, h4⟩ := h
  exact ⟨v, cell_below h1 hb, cell_below h2 hb, Nat.lt_of_lt_of_le h3 hb.size, h4.below hb⟩

/-- A method of an interface value, found. -/
def Meth (t : TypeId) (x : Value) (name : String) (k : Nat) : Prop := (∀ w, (method 308 t x name).run Try.prog w = .ok (k, x) w) ∧ ∀ args w, (callFunc k args).run Try.prog w = .ok (.enter k args) w
theorem m_fs (a : Addr) : Meth 153 (.pointer (some a)) "Size" 164 := ⟨fun _ => by kernel_rfl, Go.MuLone.run_callFunc_enter (P := Try.prog) Try.func164 (by kernel_rfl) rfl⟩
theorem m_fa (a : Addr) : Meth 153 (.pointer (some a)) "At" 162 := ⟨fun _ => by kernel_rfl, Go.MuLone.run_callFunc_enter (P := Try.prog) Try.func162 (by kernel_rfl) rfl⟩
theorem m_fc (a : Addr) : Meth 153 (.pointer (some a)) "Count" 163 := ⟨fun _ => by kernel_rfl, Go.MuLone.run_callFunc_enter (P := Try.prog) Try.func163 (by kernel_rfl) rfl⟩
theorem m_ms (a : Addr) : Meth 155 (.pointer (some a)) "Size" 167 := ⟨fun _ => by kernel_rfl, Go.MuLone.run_callFunc_enter (P := Try.prog) Try.func167 (by kernel_rfl) rfl⟩
theorem m_ma (a : Addr) : Meth 155 (.pointer (some a)) "At" 165 := ⟨fun _ => by kernel_rfl, Go.MuLone.run_callFunc_enter (P := Try.prog) Try.func165 (by kernel_rfl) rfl⟩
theorem m_mc (a : Addr) : Meth 155 (.pointer (some a)) "Count" 166 := ⟨fun _ => by kernel_rfl, Go.MuLone.run_callFunc_enter (P := Try.prog) Try.func166 (by kernel_rfl) rfl⟩

/-- What a counter does, of whichever kind. -/
theorem Ctr.ops {w : World} {v : Value} {s : ByteArray} (h : Ctr w v s) (hn : s.size ≤ 2000) : ∃ t x kS kA kC, v = .iface t x ∧ Meth t x "Size" kS ∧ Meth t x "At" kA ∧ Meth t x "Count" kC ∧
    Hid (∀ w', Below w.heap.size w w' → Calls Try.prog kS #[x] w' fun e w2 => e = .returned (.int .i64 (s.size : Int)) ∧ w2 = w') ∧
    Hid (∀ w' row (hr : row < s.size), Below w.heap.size w w' → Calls Try.prog kA #[x, .int .i64 (row : Int)] w' fun e w2 => e = .returned (.int .u8 ((s[row]).toNat : Int)) ∧ Below w'.heap.size w' w2) ∧
    Hid (∀ w' (c row : Nat), c < 256 → row ≤ s.size → Below w.heap.size w w' → Calls Try.prog kC #[x, .int .u8 (c : Int), .int .i64 (row : Int)] w' fun e w2 => e = .returned (.tuple #[.int .i64 ((cnt (byN s) c row : Nat) : Int), .int .i64 ((less (byN s) c row : Nat) : Int)]) ∧ Below w'.heap.size w' w2) := by
  rcases h with ⟨_, g, rfl, h⟩ | ⟨_, g, rfl, h⟩
  · exact ⟨_, _, _, _, _, rfl, m_fs _, m_fa _, m_fc _, fun w' hb => few_size w' g s _ (h.below hb), fun w' row hr hb => few_at w' g row s (h.below hb) hn hr, fun w' c row hc hr hb => few_count w' g c row s (h.below hb) hn hr hc⟩
  · exact ⟨_, _, _, _, _, rfl, m_ms _, m_ma _, m_mc _, fun w' hb => many_size w' g s (h.below hb), fun w' row hr hb => (many_at w' g row s (h.below hb) hr).mono (fun e w2 h => ⟨h.1, h.2 ▸ Below.refl _ _⟩), fun w' c row hc hr hb => many_count w' g c row s (h.below hb) hn hr hc⟩

set_option maxRecDepth 10000 in
theorem side_rows (w : World) (g off e : Nat) (s : ByteArray) (h : SideP w g off s e) (hn : s.size ≤ 2000) : Calls Try.prog 81 #[.pointer (some ⟨g, off, none⟩)] w fun en w' => en = .returned (.int .i64 ((s.size + 1 : Nat) : Int)) ∧ w' = w := by
  obtain ⟨v, h1, h2, h3, h4⟩ := h
  obtain ⟨t, x, kS, kA, kC, rfl, ⟨hm, he⟩, _, _, HS, _, _⟩ := h4.ops hn
  clear h4
  go_enter Try.func81, Try.ntmps81
  go_wp2_with fail
  refine (HS.out w (Below.refl _ _)).mono ?_
  rintro en w1 ⟨rfl, rfl⟩
  go_wp2
  go_ret
  exact ⟨by rw [Int.natCast_add]; rfl, rfl⟩

/-- Rows ahead of a row, that of the END left out. -/
theorem idxOf (e r : Nat) : idx e r = if e < r then r - 1 else r := rfl

/-- How many rows ahead of a row have less than c, or the END. -/
def lessE (b : Nat → Nat) (e c row : Nat) : Nat := less b c (idx e row) + (if e < row then 1 else 0)
theorem lessE_pos {b : Nat → Nat} {e c row : Nat} (h : e < row) : lessE b e c row = less b c (row - 1) + 1 := by rw [lessE, idxOf, if_pos h, if_pos h]
theorem lessE_neg {b : Nat → Nat} {e c row : Nat} (h : ¬ e < row) : lessE b e c row = less b c row := by rw [lessE, idxOf, if_neg h, if_neg h]; rfl

set_option maxRecDepth 10000 in
set_option maxHeartbeats 400000 in
theorem side_rank (w : World) (g off e c row : Nat) (s : ByteArray) (h : SideP w g off s e) (hn : s.size ≤ 2000) (he2 : e ≤ s.size) (hc : c < 256) (hr : row ≤ s.size + 1) : Calls Try.prog 82 #[.pointer (some ⟨g, off, none⟩), .int .u8 (c : Int), .int .i64 (row : Int)] w fun en w' => en = .returned (.tuple #[.int .i64 ((cnt (byN s) c (idx e row) : Nat) : Int), .int .i64 ((lessE (byN s) e c row : Nat) : Int)]) ∧ Below w.heap.size w w' := by
  obtain ⟨v, h1, h2, h3, h4⟩ := h
  obtain ⟨t, x, kS, kA, kC, rfl, _, _, ⟨hm, he⟩, _, _, HC⟩ := h4.ops hn
  clear h4
  by_cases hlt : e < row
  · have hx : Hid (idx e row = row - 1) := by show idx e row = row - 1; rw [idxOf, if_pos hlt]
    have hle1 := less_le (byN s) c (row - 1)
    have hq1 : (row : Int) - 1 = ((row - 1 : Nat) : Int) := by omega
    go_enter Try.func82, Try.ntmps82
    go_wp2_with fail
    refine (HC.out w c (row - 1) hc (by omega) (Below.refl _ _)).mono ?_
    rintro en w1 ⟨rfl, hb⟩
    go_wp2
    go_ret2
    exact ⟨by rw [hx.out, lessE_pos hlt, Int.natCast_add]; rfl, hb⟩
  · have hx : Hid (idx e row = row) := by show idx e row = row; rw [idxOf, if_neg hlt]
    go_enter Try.func82, Try.ntmps82
    go_wp2_with fail
    refine (HC.out w c row hc (by omega) (Below.refl _ _)).mono ?_
    rintro en w1 ⟨rfl, hb⟩
    go_wp2
    go_ret2
    exact ⟨by rw [hx.out, lessE_neg hlt]; rfl, hb⟩

set_option maxRecDepth 10000 in
theorem side_first (w : World) (g off e c : Nat) (s : ByteArray) (h : SideP w g off s e) (hn : s.size ≤ 2000) (he2 : e ≤ s.size) (hc : c < 256) : Calls Try.prog 105 #[.pointer (some ⟨g, off, none⟩), .int .u8 (c : Int)] w fun en w' => en = .returned (.int .i64 ((1 + less (byN s) c s.size : Nat) : Int)) ∧ Below w.heap.size w w' := by
  have hx : Hid (lessE (byN s) e c (s.size + 1) = 1 + less (byN s) c s.size) := by
    show lessE (byN s) e c (s.size + 1) = _
    rw [lessE_pos (by omega), Nat.add_sub_cancel]; omega
  go_enter Try.func105, Try.ntmps105
  go_wp2_with fail
  refine (side_rows w g off e s h hn).mono ?_
  rintro en w1 ⟨rfl, rfl⟩
  go_wp2_with fail
  refine (side_rank w1 g off e c (s.size + 1) s h hn he2 hc (Nat.le_refl _)).mono ?_
  rintro en w2 ⟨rfl, hb⟩
  rw [hx.out]
  go_wp2
  go_ret
  exact ⟨rfl, hb⟩

set_option maxRecDepth 10000 in
set_option maxHeartbeats 400000 in
theorem side_ahead (w : World) (g off e row : Nat) (s : ByteArray) (h : SideP w g off s e) (hn : s.size ≤ 2000) (he2 : e ≤ s.size) (hr : row ≤ s.size) (hne : row ≠ e) (hat : idx e row < s.size) : Calls Try.prog 79 #[.pointer (some ⟨g, off, none⟩), .int .i64 (row : Int)] w fun en w' => en = .returned (.tuple #[.int .u8 ((s[idx e row]).toNat : Int), .int .i64 ((1 + rk (byN s) s.size (idx e row) : Nat) : Int)]) ∧ Below w.heap.size w w' := by
  obtain ⟨v, h1, h2, h3, h4⟩ := id h
  obtain ⟨t, x, kS, kA, kC, rfl, _, ⟨hm, he⟩, _, _, HA, _⟩ := h4.ops hn
  clear h4
  have hby := (s[idx e row]).toNat_lt
  have HR : Hid (1 + less (byN s) (s[idx e row]).toNat s.size + cnt (byN s) (s[idx e row]).toNat (idx e row) = 1 + rk (byN s) s.size (idx e row)) := by
    show 1 + less (byN s) (s[idx e row]).toNat s.size + cnt (byN s) (s[idx e row]).toNat (idx e row) = _
    rw [rk, byN_lt s _ hat]; omega
  have hl1 := less_le (byN s) (s[idx e row]).toNat s.size
  have hl2 := cnt_le (byN s) (s[idx e row]).toNat (idx e row)
  have HAT := HA.out w (idx e row) hat (Below.refl _ _)
  have HATC : Hid _ := HAT
  clear HAT HA
  have hix : idx e row = if e < row then row - 1 else row := idxOf e row
  have hrank := fun w' hb c hc => side_rank w' g off e c row s (SideP.below h hb) hn he2 hc (by omega)
  have HRK : Hid _ := hrank
  clear hrank
  have hfirst := fun w' hb c hc => side_first w' g off e c s (SideP.below h hb) hn he2 hc
  have HF : Hid _ := hfirst
  clear hfirst
  generalize hI : idx e row = I at *
  generalize hX : s[I] = X at *
  clear hX hI
  by_cases hlt : e < row
  · rw [if_pos hlt] at hix
    have hq1 : (row : Int) - 1 = (I : Int) := by omega
    clear hix
    go_enter Try.func79, Try.ntmps79
    go_wp2_with fail
    refine Calls.mono HATC.out ?_
    clear HATC
    rintro en w1 ⟨rfl, hb1⟩
    go_wp2_with fail
    refine (HRK.out w1 hb1 X.toNat hby).mono ?_
    rintro en w2 ⟨rfl, hb2⟩
    have hb12 := hb1.trans (hb2.mono hb1.size)
    go_wp2_with fail
    refine (HF.out w2 hb12 X.toNat hby).mono ?_
    rintro en w3 ⟨rfl, hb3⟩
    go_wp2
    go_ret2
    exact ⟨by rw [← HR.out]; simp, hb12.trans (hb3.mono hb12.size)⟩
  · rw [if_neg hlt] at hix
    subst hix
    go_enter Try.func79, Try.ntmps79
    go_wp2_with fail
    refine Calls.mono HATC.out ?_
    clear HATC
    rintro en w1 ⟨rfl, hb1⟩
    go_wp2_with fail
    refine (HRK.out w1 hb1 X.toNat hby).mono ?_
    rintro en w2 ⟨rfl, hb2⟩
    have hb12 := hb1.trans (hb2.mono hb1.size)
    go_wp2_with fail
    refine (HF.out w2 hb12 X.toNat hby).mono ?_
    rintro en w3 ⟨rfl, hb3⟩
    go_wp2
    go_ret2
    exact ⟨by rw [← HR.out]; simp, hb12.trans (hb3.mono hb12.size)⟩
end Go.Proofs.Ytbnllikpgckjjaa
