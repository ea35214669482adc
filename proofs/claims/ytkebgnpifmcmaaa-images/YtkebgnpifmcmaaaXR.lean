import Derived.Test.YtkebgnpifmcmaaaXQ
namespace Go.Proofs.Ytkebgnpifmcmaaa
open Go.RowKit

theorem IndexQ.below {w w' : World} {g : Nat} {s1 s2 : ByteArray} {e1 e2 rate : Nat} {f : Nat → Nat} (h : IndexQ w g s1 e1 s2 e2 rate f) (hb : Below w.heap.size w w') : IndexQ w' g s1 e1 s2 e2 rate f := by
  obtain ⟨c1, c2, m0, m1, m2, pl, base, k, h1, h2, h3, h4⟩ := h
  exact ⟨c1, c2, m0, m1, m2, pl, base, k.below hb k.lt, h1.below hb, h2.below hb, h3.below hb, own_below3 h4 hb⟩
theorem IndexQ.side {w : World} {g : Nat} {s1 s2 : ByteArray} {e1 e2 rate : Nat} {f : Nat → Nat} (h : IndexQ w g s1 e1 s2 e2 rate f) : SideP w g 0 s1 e1 ∧ SideP w g 2 s2 e2 ∧ w.cell? ⟨g, 4, none⟩ = some (.int .i64 (rate : Int)) := by
  obtain ⟨c1, c2, m0, m1, m2, pl, base, k, h1, h2, h3, h4⟩ := h
  exact ⟨⟨c1, k.cell 0, k.cell 1, k.lt, h1⟩, ⟨c2, k.cell 2, k.cell 3, k.lt, h2⟩, k.cell 4⟩
theorem keptL_le {f : Nat → Nat} {rate n B : Nat} (h : ∀ r, r < n → f r ≤ B) : ∀ x ∈ keptL f rate n, x ≤ B := by
  induction n with
  | zero => intro x hx; cases hx
  | succ n ih =>
    intro x hx
    simp only [keptL, List.mem_append] at hx
    rcases hx with hx | hx
    · exact ih (fun r hr => h r (by omega)) x hx
    · split at hx
      · simp only [List.mem_singleton] at hx; rw [hx]; exact h n (by omega)
      · cases hx

set_option maxRecDepth 10000 in
theorem bodyOf_1 (w : World) (g e1 e2 rate : Nat) (s1 s2 : ByteArray) (f : Nat → Nat) (h : IndexQ w g s1 e1 s2 e2 rate f) (hn : s1.size ≤ 2000) (he : e1 ≤ 60000) :
    Calls Try.prog 58 #[.pointer (some ⟨g, 0, none⟩), .int .i64 1] w fun en w' => ∃ v, en = .returned v ∧ OwnG w' w.heap.size v (sideB s1 e1) ∧ Below w.heap.size w w' := by
  have hs := h.side.1
  go_enter Try.func58, Try.ntmps58
  go_wp2_with fail
  refine (bodyOfSide_any w g 0 e1 s1 hs hn he).mono ?_
  rintro en w1 ⟨v, rfl, hown, hb⟩
  go_wp2
  go_ret
  exact ⟨v, rfl, OwnG.of hown (sideB_length s1 e1 hn).2, hb⟩
set_option maxRecDepth 10000 in
theorem bodyOf_2 (w : World) (g e1 e2 rate : Nat) (s1 s2 : ByteArray) (f : Nat → Nat) (h : IndexQ w g s1 e1 s2 e2 rate f) (hn : s2.size ≤ 2000) (he : e2 ≤ 60000) :
    Calls Try.prog 58 #[.pointer (some ⟨g, 0, none⟩), .int .i64 2] w fun en w' => ∃ v, en = .returned v ∧ OwnG w' w.heap.size v (sideB s2 e2) ∧ Below w.heap.size w w' := by
  have hs := h.side.2.1
  go_enter Try.func58, Try.ntmps58
  go_wp2_with fail
  refine (bodyOfSide_any w g 2 e2 s2 hs hn he).mono ?_
  rintro en w1 ⟨v, rfl, hown, hb⟩
  go_wp2
  go_ret
  exact ⟨v, rfl, OwnG.of hown (sideB_length s2 e2 hn).2, hb⟩
set_option maxRecDepth 10000 in
theorem bodyOf_3 (w : World) (g e1 e2 rate : Nat) (s1 s2 : ByteArray) (f : Nat → Nat) (h : IndexQ w g s1 e1 s2 e2 rate f) (hn : s1.size ≤ 2000) (hf : ∀ r, r < s1.size + 1 → f r ≤ 2000) :
    Calls Try.prog 58 #[.pointer (some ⟨g, 0, none⟩), .int .i64 3] w fun en w' => ∃ v, en = .returned v ∧ OwnG w' w.heap.size v (keptB f rate (s1.size + 1)) ∧ Below w.heap.size w w' := by
  obtain ⟨c1, c2, m0, m1, m2, pl, base, k, h1, h2, h3, h4⟩ := h
  obtain ⟨gw, ga, W, rfl, rfl, rfl, r⟩ := id h3
  have HK : Hid _ := bodyOfKept_any w g 5 (s1.size + 1) base (isK f rate) (keptL f rate (s1.size + 1)) gw ga pl (by omega) (keptL_length _ _ _) (fun j hj => by
    rw [List.getD_eq_getElem?_getD, List.getElem?_eq_getElem hj, Option.getD_some]
    exact Nat.le_trans (keptL_le hf _ (List.getElem_mem hj)) (by omega)) (k.cell 5) (k.cell 6) (k.cell 7) (k.cell 8) h3 h4
  clear h1 h2 h3 h4 r k
  go_enter Try.func58, Try.ntmps58
  go_wp2_with fail
  refine Calls.mono HK.out ?_
  clear HK
  rintro en w1 ⟨v, rfl, hown, hb⟩
  go_wp2
  go_ret
  exact ⟨v, rfl, hown, hb⟩

theorem enterRows (args : Array Value) (w : World) : (callFunc 68 args).run Try.prog w = .ok (.enter 68 args) w := Go.MuLone.run_callFunc_enter (P := Try.prog) Try.func68 (by kernel_rfl) rfl args w
theorem enterAppN (args : Array Value) (w : World) : (callFunc 59 args).run Try.prog w = .ok (.enter 59 args) w := Go.MuLone.run_callFunc_enter (P := Try.prog) Try.func59 (by kernel_rfl) rfl args w

set_option maxRecDepth 10000 in
set_option maxHeartbeats 1000000 in
theorem bodyOf_0 (w : World) (g e1 e2 rate : Nat) (s1 s2 : ByteArray) (f : Nat → Nat) (h : IndexQ w g s1 e1 s2 e2 rate f) (hn : s1.size ≤ 2000) (hr : rate ≤ 64) :
    Calls Try.prog 58 #[.pointer (some ⟨g, 0, none⟩), .int .i64 0] w fun en w' => ∃ v, en = .returned v ∧ OwnG w' w.heap.size v (num2 s1.size ++ [UInt8.ofNat rate]) ∧ Below w.heap.size w w' := by
  obtain ⟨i0, hi, hz0, hz1, hz2⟩ := info_parts Try.info5
  have hs := h.side.1
  have hc4 := h.side.2.2
  have hwr : IntKind.u8.wrap (rate : Int) = (rate : Int) := by simp [IntKind.wrap, IntKind.bits, IntKind.signed]; omega
  have hws : IntKind.i64.wrap ((s1.size : Int) + 1 - 1) = (s1.size : Int) := by rw [IntKind.wrap_i64]; omega
  have hws2 : IntKind.i64.wrap (s1.size : Int) = (s1.size : Int) := by rw [IntKind.wrap_i64]; omega
  have hsd : SideP w.drew g 0 s1 e1 := hs
  have hsda : ∀ o, SideP (w.alloc o).drew g 0 s1 e1 := fun o => hs.below (((Below.refl _ _).alloc (Nat.le_refl _) o).drew)
  have hc4a : ∀ o, (w.alloc o).cell? ⟨g, 4, none⟩ = some (.int .i64 (rate : Int)) := fun o => cell_below hc4 ((Below.refl _ _).alloc (Nat.le_refl _) o)
  have hbd : Below w.heap.size w w.drew := (Below.refl _ _).drew
  have hsz : w.drew.heap.size = w.heap.size := rfl
  have HSD : Hid _ := hsd
  have HSDA : Hid _ := hsda
  clear hsd hsda hs
  obtain ⟨WB, hWB⟩ : ∃ WB, WB = (w.alloc (.cells #[.int .u8 (rate : Int)] 5)).drew := ⟨_, rfl⟩
  have kB : Blk WB w.heap.size 5 #[.int .u8 (rate : Int)] := by rw [hWB]; exact Blk.new w 5 _
  have hsB : WB.heap.size = w.heap.size + 1 := by rw [hWB]; show (w.alloc _).heap.size = _; simp
  have hbB0 : Below w.heap.size w WB := by rw [hWB]; exact ((Below.refl _ _).alloc (Nat.le_refl _) _).drew
  have HWB : Hid (WB = (w.alloc (.cells #[.int .u8 (rate : Int)] 5)).drew) := hWB
  clear hWB
  have HBR : Hid (BL (num2 s1.size) ++ [.int .u8 (rate : Int)] = BL (num2 s1.size ++ [UInt8.ofNat rate])) := by
    show BL (num2 s1.size) ++ [.int .u8 (rate : Int)] = _
    rw [← BL_append]
    show _ = BL (num2 s1.size) ++ [Value.int .u8 ((UInt8.ofNat rate).toNat : Int)]
    rw [ofNat_toNat (by omega)]
  go_enter Try.func58, Try.ntmps58
  go_upto_region 4 with fail
  go_region_law (first
    | (refine step_calls (args := #[.pointer (some ⟨g, 0, none⟩)]) rfl rfl enterRows (by simp [Act.eval, Act.put]) (side_rows w.drew g 0 e1 s1 HSD.out hn) ?_; rintro en w2 ⟨rfl, rfl⟩; refine ⟨_, rfl, ?_⟩)
    | (refine step_calls (args := #[.pointer (some ⟨g, 0, none⟩)]) rfl rfl enterRows (by simp [Act.eval]) (side_rows (w.alloc (.cells #[.int .u8 (rate : Int)] 5)).drew g 0 e1 s1 (HSDA.out _) hn) ?_; rintro en w2 ⟨rfl, rfl⟩; refine ⟨_, rfl, ?_⟩)
    | (refine step_calls (args := #[.slice none 0 0, .int .i64 (s1.size : Int)]) rfl rfl enterAppN (by simp [Act.eval, Act.put]) (appendNumber_any w.heap.size (.slice none 0 0) [] s1.size w.drew (World.ownsRow_nil _ _ _ _) (by simp) (by omega) (Nat.le_refl _)) ?_; rintro en w1 ⟨v1, rfl, hown1, hb1⟩; refine ⟨_, rfl, ?_⟩; rw [List.nil_append] at hown1; obtain ⟨g1, cap1, rfl⟩ : ∃ g1 cap1, v1 = .slice (some ⟨g1, 0, none⟩) 2 cap1 := own_form hown1 (by decide); have hd4 : w1.cell? ⟨g, 4, none⟩ = some (.int .i64 (rate : Int)) := cell_below (show w.drew.cell? _ = _ from hc4) hb1)
    | (refine step_calls (args := #[.slice none 0 0, .int .i64 (s1.size : Int)]) rfl rfl enterAppN (by simp [Act.eval, Act.put]) (by rw [← HWB.out]; exact appendNumber_any (w.heap.size + 1) (.slice none 0 0) [] s1.size WB (World.ownsRow_nil _ _ _ _) (by simp) (by omega) (by omega)) ?_; rintro en w1 ⟨v1, rfl, hownB, hbB⟩; refine ⟨_, rfl, ?_⟩; rw [List.nil_append] at hownB; obtain ⟨g1, cap1, rfl⟩ : ∃ g1 cap1, v1 = .slice (some ⟨g1, 0, none⟩) 2 cap1 := own_form hownB (by decide); have kB1 := kB.below hbB (Nat.lt_succ_self _))
    | (refine step_append_own rfl (.tmp 17) (.tmp 23) 60 rfl w.heap.size 5 i0 (.int .u8 0) 1 1 Try.underlying60 hi hz0 hz1 hz2 rfl (by decide) (.slice (some ⟨g1, 0, none⟩) 2 cap1) 2 (BL (num2 s1.size)) rfl (hown1.alloc _) ⟨w1.heap.size, 0, none⟩ 1 1 [.int .u8 (rate : Int)] rfl rfl (cell_one_new _ _ _) (fun u hu => by simp at hu; subst hu; rfl) (by unfold maxLen; omega) (by omega) (by have := hb1.size; simp; omega) ?_; intro v3 w3 hown3 hgr3)
    | (refine step_append_own rfl (.tmp 17) (.tmp 23) 60 rfl (w.heap.size + 1) 5 i0 (.int .u8 0) 1 1 Try.underlying60 hi hz0 hz1 hz2 rfl (by decide) (.slice (some ⟨g1, 0, none⟩) 2 cap1) 2 (BL (num2 s1.size)) rfl hownB ⟨w.heap.size, 0, none⟩ 1 1 [.int .u8 (rate : Int)] rfl rfl (fun j u hu => by cases j with | zero => simp at hu; subst hu; exact kB1.cell 0 | succ j => simp at hu) (fun u hu => by simp at hu; subst hu; rfl) (by unfold maxLen; omega) (by omega) (by have := hbB.size; omega) ?_; intro v3 w3 hownB3 hgrB3))
  all_goals go_wp2
  all_goals go_ret
  all_goals first
    | (rw [HBR.out] at hown3; exact ⟨v3, rfl, OwnG.of hown3 (by rw [List.length_append]; simp), ((hbd.trans hb1).alloc hb1.size _).grown hgr3 (by have := hb1.size; simp; omega) (fun k hk => (hown1.lt k hk).1)⟩)
    | (rw [HBR.out] at hownB3; exact ⟨v3, rfl, OwnG.of (own_base hownB3 (Nat.le_succ _)) (by rw [List.length_append]; simp), (hbB0.trans (hbB.mono (Nat.le_succ _))).grown hgrB3 (by have := hbB.size; omega) (fun k hk => Nat.le_trans (Nat.le_succ _) (hownB.lt k hk).1)⟩)
end Go.Proofs.Ytkebgnpifmcmaaa
