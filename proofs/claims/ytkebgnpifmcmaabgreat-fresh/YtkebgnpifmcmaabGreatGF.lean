import Derived.Test.YtkebgnpifmcmaabGreatGE
import Derived.Maps.AppendAt
import Derived.Laws.ResultCell
namespace Go.Proofs.YtkebgnpifmcmaabGreat
open Go.RowKit

/-- '[]byte(s)'. -/
theorem conv_OwnG (w : World) (s : ByteArray) : ∃ cap W', (convert 9 75 (.string s)).run Tryz.prog w = .ok (.slice (some ⟨w.heap.size, 0, none⟩) s.size cap) W' ∧ OwnG W' w.heap.size (.slice (some ⟨w.heap.size, 0, none⟩) s.size cap) (tx s) ∧ Below w.heap.size w W' := by
  refine ⟨grownCap w s.size 0 5, _, run_bytes_of_string w 9 75 5 s Tryz.underlying9 Tryz.underlying75 Tryz.underlying5, ?_, ((Below.refl _ _).drew).alloc (Nat.le_refl _) _⟩
  have hge : s.size ≤ grownCap w s.size 0 5 := grownCap_ge w s.size 0 5
  generalize grownCap w s.size 0 5 = cap at *
  have hh : (w.drew.alloc (.cells (bytesRow s cap) 5 ((bytesRow s cap).size, (bytesRow s cap).size + 1))).heap[w.heap.size]? = some (.cells (bytesRow s cap) 5 ((bytesRow s cap).size, (bytesRow s cap).size + 1)) := heap_alloc_new w.drew _
  have hsz : (bytesRow s cap).size = cap := by
    rw [bytesRow, Array.size_append, Array.size_map, Array.size_replicate]
    show s.size + (cap - s.size) = cap
    omega
  refine ⟨w.heap.size, cap, by rw [tx_length], Nat.le_refl _, by simp, by rw [tx_length]; exact hge, fun j u hu => ?_, fun j hj => ?_⟩
  · have hj : j < s.size := by have := (List.getElem?_eq_some_iff.1 hu).1; rwa [BL_length, tx_length] at this
    rw [cell_of_row _ _ _ _ _ _ hh, bytesRow_at s cap j hj, ← hu]
    have hj2 : j < (tx s).length := by rw [tx_length]; exact hj
    simp only [BL, List.getElem?_map, List.getElem?_eq_getElem hj2, Option.map_some]
    rfl
  · refine ⟨?_, ?_⟩
    · rw [cell_of_row _ _ _ _ _ _ hh, Array.getElem?_eq_getElem (by omega)]; rfl
    · simp only [World.frozen?, hh]
      simp; omega

/-- Numbers, as bytes. -/
def nums (l : List Nat) : List UInt8 := l.flatMap num2
theorem nums_snoc (l : List Nat) (x : Nat) : nums (l ++ [x]) = nums l ++ num2 x := by simp [nums]
theorem nums_length (l : List Nat) : (nums l).length = 2 * l.length := by
  induction l with
  | nil => rfl
  | cons x l ih => simp only [nums, List.flatMap_cons, List.length_append, num2_length, List.length_cons] at ih ⊢; omega
def keptB (f : Nat → Nat) (rate n : Nat) : List UInt8 := packed (isK f rate) n ++ nums (keptL f rate n)

set_option maxRecDepth 10000 in
set_option maxHeartbeats 1000000 in
theorem bodyOfKept_any (w : World) (g off n base : Nat) (F : Nat → Bool) (L : List Nat) (gw ga : Nat) (pl : Value) (hn : n ≤ 2001) (hLn : L.length ≤ n) (hL : ∀ j, j < L.length → L.getD j 0 ≤ 60000)
    (h0 : w.cell? ⟨g, off, none⟩ = some (.int .i64 (n : Int))) (h1 : w.cell? ⟨g, off + 1, none⟩ = some (.slice (some ⟨gw, 0, none⟩) (n / 64 + 1) (n / 64 + 1))) (h2 : w.cell? ⟨g, off + 2, none⟩ = some (.slice (some ⟨ga, 0, none⟩) (n / 64 + 1) (n / 64 + 1))) (h3 : w.cell? ⟨g, off + 3, none⟩ = some pl)
    (hbr : BR w (.int .i64 (n : Int)) (.slice (some ⟨gw, 0, none⟩) (n / 64 + 1) (n / 64 + 1)) (.slice (some ⟨ga, 0, none⟩) (n / 64 + 1) (n / 64 + 1)) n F) (hown : w.ownsRow base 3 1 pl L.length (NL L)) :
    Calls Tryz.prog 111 #[.pointer (some ⟨g, off, none⟩)] w fun en w' => ∃ v, en = .returned v ∧ OwnG w' w.heap.size v (packed F n ++ nums L) ∧ Below w.heap.size w w' := by
  go_enter Tryz.func111, Tryz.ntmps111
  go_wp2_with fail
  refine (hbr.pack hn).mono ?_
  rintro en w1 ⟨rfl, hb1⟩
  obtain ⟨cap, w2, hcv, hG2, hb2⟩ := conv_OwnG w1 (bs (packed F n))
  rw [tx_bs] at hG2
  have h31 : w2.cell? ⟨g, off + 3, none⟩ = some pl := cell_below (cell_below h3 hb1) hb2
  have hb12 := hb1.trans (hb2.mono hb1.size)
  have hown2 := own_below3 (own_below3 hown hb1) hb2
  have hpv : ∃ ao cp, pl = .slice ao L.length cp := by
    rcases hown.2 with ⟨rfl, h0⟩ | ⟨g', cp, cur, rfl, _⟩
    · exact ⟨none, 0, by rw [h0]⟩
    · exact ⟨_, _, rfl⟩
  obtain ⟨ao, cp, rfl⟩ := hpv
  have HPL : Hid ((packed F n).length = (n + 7) / 8) := packed_length F n
  have hG20 : OwnG w2 w.heap.size (.slice (some ⟨w1.heap.size, 0, none⟩) (bs (packed F n)).size cap) (packed F n) := by
    obtain ⟨g', c', q1, q2, q3⟩ := hG2
    exact ⟨g', c', q1, Nat.le_trans hb1.size q2, q3⟩
  generalize bs (packed F n) = PS at *
  generalize hPK : packed F n = PK at *
  have HPK : Hid (packed F n = PK) := hPK
  clear hPK
  clear h0 h1 h2 h3 hbr hG2 hb1 hb2
  go_wp2_with fail
  clear hcv h31
  go_loopw [3, 17, 5] (fun v i _ wr => ∃ k : Nat, k ≤ L.length ∧ i = .int .i64 (k : Int) ∧ OwnG wr w.heap.size v (PK ++ nums (L.take k)) ∧ Below w.heap.size w wr) (fun _ i _ _ => L.length - (intOf i).toNat)
  case atStart => exact ⟨0, Nat.zero_le _, rfl, by simpa [nums] using hG20, hb12⟩
  case round =>
    clear hG20 hb12 hown2
    obtain ⟨k, hk, rfl, hG, hb⟩ := hrel
    by_cases hlt : k < L.length
    · obtain ⟨gr, cp2, hv2, hcell⟩ := own_cellsN (own_below3 hown hb) (by omega)
      obtain ⟨rfl, rfl⟩ : ao = some ⟨gr, 0, none⟩ ∧ cp = cp2 := by simpa using hv2
      have hc1 := hcell k (.int .i64 ((L.getD k 0 : Nat) : Int)) (by omega) (by simp [NL, List.getElem?_eq_getElem hlt])
      have hLk := hL k hlt
      have HTK : Hid (L.take (k + 1) = L.take k ++ [L.getD k 0]) := by
        show L.take (k + 1) = _
        rw [List.take_add_one, List.getElem?_eq_getElem hlt, List.getD_eq_getElem?_getD, List.getElem?_eq_getElem hlt]; rfl
      have hlen : (PK ++ nums (L.take k)).length ≤ 100000 := by
        rw [List.length_append, nums_length, List.length_take, HPL.out]; omega
      have hgv : ∃ gg mm cc, u3 = .slice (some ⟨gg, 0, none⟩) mm cc := by
        obtain ⟨gg, cc, e1, _⟩ := id hG
        exact ⟨gg, _, cc, e1⟩
      obtain ⟨gg, mm, cc, rfl⟩ := hgv
      generalize L.getD k 0 = X at *
      clear hcell hv2
      go_wp2_with fail
      refine (appendNumber_G w.heap.size _ (PK ++ nums (L.take k)) X wr hG hlen hLk hb.size).mono ?_
      rintro en w3 ⟨v3, rfl, hG3, hb3⟩
      have HN : Hid (PK ++ nums (L.take (k + 1)) = PK ++ nums (L.take k) ++ num2 X) := by
        show PK ++ nums (L.take (k + 1)) = _
        rw [HTK.out, nums_snoc, List.append_assoc]
      go_wp2
      go_roundw
      case rel => exact ⟨k + 1, by omega, by go_num, by rw [HN.out]; exact hG3, hb.trans hb3⟩
      case measure => simp [intOf]; omega
    · have hkl : k = L.length := by omega
      subst hkl
      go_wp2
      go_ret
      exact ⟨_, rfl, by rw [List.take_length] at hG; rw [HPK.out]; exact hG, hb⟩
end Go.Proofs.YtkebgnpifmcmaabGreat

namespace Go.Proofs.YtkebgnpifmcmaabGreat
open Go.RowKit

theorem IndexQ.below {w w' : World} {g : Nat} {s1 s2 : ByteArray} {e1 e2 rate : Nat} {f : Nat → Nat} (h : IndexQ w g s1 e1 s2 e2 rate f) (hb : Below w.heap.size w w') : IndexQ w' g s1 e1 s2 e2 rate f := by
  obtain ⟨c1, c2, m0, m1, m2, pl, base, k, h1, h2, h3, h4⟩ := h
  exact ⟨c1, c2, m0, m1, m2, pl, base, k.below hb k.lt, h1.below hb, h2.below hb, h3.below hb, own_below3 h4 hb⟩
theorem IndexQ.side {w : World} {g : Nat} {s1 s2 : ByteArray} {e1 e2 rate : Nat} {f : Nat → Nat} (h : IndexQ w g s1 e1 s2 e2 rate f) : SideP w g 0 s1 e1 ∧ SideP w g 2 s2 e2 ∧ w.cell? ⟨g, 4, none⟩ = some (.int .i64 (rate : Int)) := by
  obtain ⟨c1, c2, m0, m1, m2, pl, base, k, h1, h2, h3, h4⟩ := h
  exact ⟨⟨c1, k.cell 0, k.cell 1, k.lt, h1⟩, ⟨c2, k.cell 2, k.cell 3, k.lt, h2⟩, k.cell 4⟩
theorem keptL_le {f : Nat → Nat} {rate n B : Nat} (h : ∀ r, r < n → f r ≤ B) : ∀ x ∈ keptL f rate n, x ≤ B := by
  induction n with
  | zero => intro x hx; cases hx
  | succ n ih =>
    intro x hx
    simp only [keptL, List.mem_append] at hx
    rcases hx with hx | hx
    · exact ih (fun r hr => h r (by omega)) x hx
    · split at hx
      · simp only [List.mem_singleton] at hx; rw [hx]; exact h n (by omega)
      · cases hx

set_option maxRecDepth 10000 in
theorem bodyOf_1 (w : World) (g e1 e2 rate : Nat) (s1 s2 : ByteArray) (f : Nat → Nat) (h : IndexQ w g s1 e1 s2 e2 rate f) (hn : s1.size ≤ 2000) (he : e1 ≤ 60000) :
    Calls Tryz.prog 78 #[.pointer (some ⟨g, 0, none⟩), .int .i64 1] w fun en w' => ∃ v, en = .returned v ∧ OwnG w' w.heap.size v (sideB s1 e1) ∧ Below w.heap.size w w' := by
  have hs := h.side.1
  go_enter Tryz.func78, Tryz.ntmps78
  go_wp2_with fail
  refine (bodyOfSide_any w g 0 e1 s1 hs hn he).mono ?_
  rintro en w1 ⟨v, rfl, hown, hb⟩
  go_wp2
  go_ret
  exact ⟨v, rfl, OwnG.of hown (sideB_length s1 e1 hn).2, hb⟩
set_option maxRecDepth 10000 in
theorem bodyOf_2 (w : World) (g e1 e2 rate : Nat) (s1 s2 : ByteArray) (f : Nat → Nat) (h : IndexQ w g s1 e1 s2 e2 rate f) (hn : s2.size ≤ 2000) (he : e2 ≤ 60000) :
    Calls Tryz.prog 78 #[.pointer (some ⟨g, 0, none⟩), .int .i64 2] w fun en w' => ∃ v, en = .returned v ∧ OwnG w' w.heap.size v (sideB s2 e2) ∧ Below w.heap.size w w' := by
  have hs := h.side.2.1
  go_enter Tryz.func78, Tryz.ntmps78
  go_wp2_with fail
  refine (bodyOfSide_any w g 2 e2 s2 hs hn he).mono ?_
  rintro en w1 ⟨v, rfl, hown, hb⟩
  go_wp2
  go_ret
  exact ⟨v, rfl, OwnG.of hown (sideB_length s2 e2 hn).2, hb⟩
set_option maxRecDepth 10000 in
theorem bodyOf_3 (w : World) (g e1 e2 rate : Nat) (s1 s2 : ByteArray) (f : Nat → Nat) (h : IndexQ w g s1 e1 s2 e2 rate f) (hn : s1.size ≤ 2000) (hf : ∀ r, r < s1.size + 1 → f r ≤ 2000) :
    Calls Tryz.prog 78 #[.pointer (some ⟨g, 0, none⟩), .int .i64 3] w fun en w' => ∃ v, en = .returned v ∧ OwnG w' w.heap.size v (keptB f rate (s1.size + 1)) ∧ Below w.heap.size w w' := by
  obtain ⟨c1, c2, m0, m1, m2, pl, base, k, h1, h2, h3, h4⟩ := h
  obtain ⟨gw, ga, W, rfl, rfl, rfl, r⟩ := id h3
  have HK : Hid _ := bodyOfKept_any w g 5 (s1.size + 1) base (isK f rate) (keptL f rate (s1.size + 1)) gw ga pl (by omega) (keptL_length _ _ _) (fun j hj => by
    rw [List.getD_eq_getElem?_getD, List.getElem?_eq_getElem hj, Option.getD_some]
    exact Nat.le_trans (keptL_le hf _ (List.getElem_mem hj)) (by omega)) (k.cell 5) (k.cell 6) (k.cell 7) (k.cell 8) h3 h4
  clear h1 h2 h3 h4 r k
  go_enter Tryz.func78, Tryz.ntmps78
  go_wp2_with fail
  refine Calls.mono HK.out ?_
  clear HK
  rintro en w1 ⟨v, rfl, hown, hb⟩
  go_wp2
  go_ret
  exact ⟨v, rfl, hown, hb⟩

theorem enterRows (args : Array Value) (w : World) : (callFunc 59 args).run Tryz.prog w = .ok (.enter 59 args) w := Go.MuLone.run_callFunc_enter (P := Tryz.prog) Tryz.func59 (by kernel_rfl) rfl args w
theorem enterAppN (args : Array Value) (w : World) : (callFunc 79 args).run Tryz.prog w = .ok (.enter 79 args) w := Go.MuLone.run_callFunc_enter (P := Tryz.prog) Tryz.func79 (by kernel_rfl) rfl args w

set_option maxRecDepth 10000 in
set_option maxHeartbeats 1000000 in
theorem bodyOf_0 (w : World) (g e1 e2 rate : Nat) (s1 s2 : ByteArray) (f : Nat → Nat) (h : IndexQ w g s1 e1 s2 e2 rate f) (hn : s1.size ≤ 2000) (hr : rate ≤ 64) :
    Calls Tryz.prog 78 #[.pointer (some ⟨g, 0, none⟩), .int .i64 0] w fun en w' => ∃ v, en = .returned v ∧ OwnG w' w.heap.size v (num2 s1.size ++ [UInt8.ofNat rate]) ∧ Below w.heap.size w w' := by
  obtain ⟨i0, hi, hz0, hz1, hz2⟩ := info_parts Tryz.info5
  have hs := h.side.1
  have hc4 := h.side.2.2
  have hwr : IntKind.u8.wrap (rate : Int) = (rate : Int) := by simp [IntKind.wrap, IntKind.bits, IntKind.signed]; omega
  have hws : IntKind.i64.wrap ((s1.size : Int) + 1 - 1) = (s1.size : Int) := by rw [IntKind.wrap_i64]; omega
  have hws2 : IntKind.i64.wrap (s1.size : Int) = (s1.size : Int) := by rw [IntKind.wrap_i64]; omega
  have hsd : SideP w.drew g 0 s1 e1 := hs
  have hsda : ∀ o, SideP (w.alloc o).drew g 0 s1 e1 := fun o => hs.below (((Below.refl _ _).alloc (Nat.le_refl _) o).drew)
  have hc4a : ∀ o, (w.alloc o).cell? ⟨g, 4, none⟩ = some (.int .i64 (rate : Int)) := fun o => cell_below hc4 ((Below.refl _ _).alloc (Nat.le_refl _) o)
  have hbd : Below w.heap.size w w.drew := (Below.refl _ _).drew
  have hsz : w.drew.heap.size = w.heap.size := rfl
  have HSD : Hid _ := hsd
  have HSDA : Hid _ := hsda
  clear hsd hsda hs
  obtain ⟨WB, hWB⟩ : ∃ WB, WB = (w.alloc (.cells #[.int .u8 (rate : Int)] 5)).drew := ⟨_, rfl⟩
  have kB : Blk WB w.heap.size 5 #[.int .u8 (rate : Int)] := by rw [hWB]; exact Blk.new w 5 _
  have hsB : WB.heap.size = w.heap.size + 1 := by rw [hWB]; show (w.alloc _).heap.size = _; simp
  have hbB0 : Below w.heap.size w WB := by rw [hWB]; exact ((Below.refl _ _).alloc (Nat.le_refl _) _).drew
  have HWB : Hid (WB = (w.alloc (.cells #[.int .u8 (rate : Int)] 5)).drew) := hWB
  clear hWB
  have HBR : Hid (BL (num2 s1.size) ++ [.int .u8 (rate : Int)] = BL (num2 s1.size ++ [UInt8.ofNat rate])) := by
    show BL (num2 s1.size) ++ [.int .u8 (rate : Int)] = _
    rw [← BL_append]
    show _ = BL (num2 s1.size) ++ [Value.int .u8 ((UInt8.ofNat rate).toNat : Int)]
    rw [ofNat_toNat (by omega)]
  go_enter Tryz.func78, Tryz.ntmps78
  go_upto_region 4 with fail
  go_region_law (first
    | (refine step_calls (args := #[.pointer (some ⟨g, 0, none⟩)]) rfl rfl enterRows (by simp [Act.eval, Act.put]) (side_rows w.drew g 0 e1 s1 HSD.out hn) ?_; rintro en w2 ⟨rfl, rfl⟩; refine ⟨_, rfl, ?_⟩)
    | (refine step_calls (args := #[.pointer (some ⟨g, 0, none⟩)]) rfl rfl enterRows (by simp [Act.eval]) (side_rows (w.alloc (.cells #[.int .u8 (rate : Int)] 5)).drew g 0 e1 s1 (HSDA.out _) hn) ?_; rintro en w2 ⟨rfl, rfl⟩; refine ⟨_, rfl, ?_⟩)
    | (refine step_calls (args := #[.slice none 0 0, .int .i64 (s1.size : Int)]) rfl rfl enterAppN (by simp [Act.eval, Act.put]) (appendNumber_any w.heap.size (.slice none 0 0) [] s1.size w.drew (World.ownsRow_nil _ _ _ _) (by simp) (by omega) (Nat.le_refl _)) ?_; rintro en w1 ⟨v1, rfl, hown1, hb1⟩; refine ⟨_, rfl, ?_⟩; rw [List.nil_append] at hown1; obtain ⟨g1, cap1, rfl⟩ : ∃ g1 cap1, v1 = .slice (some ⟨g1, 0, none⟩) 2 cap1 := own_form hown1 (by decide); have hd4 : w1.cell? ⟨g, 4, none⟩ = some (.int .i64 (rate : Int)) := cell_below (show w.drew.cell? _ = _ from hc4) hb1)
    | (refine step_calls (args := #[.slice none 0 0, .int .i64 (s1.size : Int)]) rfl rfl enterAppN (by simp [Act.eval, Act.put]) (by rw [← HWB.out]; exact appendNumber_any (w.heap.size + 1) (.slice none 0 0) [] s1.size WB (World.ownsRow_nil _ _ _ _) (by simp) (by omega) (by omega)) ?_; rintro en w1 ⟨v1, rfl, hownB, hbB⟩; refine ⟨_, rfl, ?_⟩; rw [List.nil_append] at hownB; obtain ⟨g1, cap1, rfl⟩ : ∃ g1 cap1, v1 = .slice (some ⟨g1, 0, none⟩) 2 cap1 := own_form hownB (by decide); have kB1 := kB.below hbB (Nat.lt_succ_self _))
    | (refine step_append_own rfl (.tmp 17) (.tmp 23) 75 rfl w.heap.size 5 i0 (.int .u8 0) 1 1 Tryz.underlying75 hi hz0 hz1 hz2 rfl (by decide) (.slice (some ⟨g1, 0, none⟩) 2 cap1) 2 (BL (num2 s1.size)) rfl (hown1.alloc _) ⟨w1.heap.size, 0, none⟩ 1 1 [.int .u8 (rate : Int)] rfl rfl (cell_one_new _ _ _) (fun u hu => by simp at hu; subst hu; rfl) (by unfold maxLen; omega) (by omega) (by have := hb1.size; simp; omega) ?_; intro v3 w3 hown3 hgr3)
    | (refine step_append_own rfl (.tmp 17) (.tmp 23) 75 rfl (w.heap.size + 1) 5 i0 (.int .u8 0) 1 1 Tryz.underlying75 hi hz0 hz1 hz2 rfl (by decide) (.slice (some ⟨g1, 0, none⟩) 2 cap1) 2 (BL (num2 s1.size)) rfl hownB ⟨w.heap.size, 0, none⟩ 1 1 [.int .u8 (rate : Int)] rfl rfl (fun j u hu => by cases j with | zero => simp at hu; subst hu; exact kB1.cell 0 | succ j => simp at hu) (fun u hu => by simp at hu; subst hu; rfl) (by unfold maxLen; omega) (by omega) (by have := hbB.size; omega) ?_; intro v3 w3 hownB3 hgrB3))
  all_goals go_wp2
  all_goals go_ret
  all_goals first
    | (rw [HBR.out] at hown3; exact ⟨v3, rfl, OwnG.of hown3 (by rw [List.length_append]; simp), ((hbd.trans hb1).alloc hb1.size _).grown hgr3 (by have := hb1.size; simp; omega) (fun k hk => (hown1.lt k hk).1)⟩)
    | (rw [HBR.out] at hownB3; exact ⟨v3, rfl, OwnG.of (own_base hownB3 (Nat.le_succ _)) (by rw [List.length_append]; simp), (hbB0.trans (hbB.mono (Nat.le_succ _))).grown hgrB3 (by have := hbB.size; omega) (fun k hk => Nat.le_trans (Nat.le_succ _) (hownB.lt k hk).1)⟩)
end Go.Proofs.YtkebgnpifmcmaabGreat

namespace Go.Proofs.YtkebgnpifmcmaabGreat
open Go.RowKit

set_option maxRecDepth 10000 in
set_option maxHeartbeats 400000 in
theorem appendNumber_keep (base : Nat) (v : Value) (l : List UInt8) (n : Nat) (w : World) (hown : w.ownsRow base 5 1 v l.length (BL l)) (hl : l.length ≤ 100000) (hn : n ≤ 60000) (hbase : base ≤ w.heap.size) :
    Calls Tryz.prog 79 #[v, .int .i64 (n : Int)] w fun e w' => ∃ v', e = .returned v' ∧ w'.ownsRow base 5 1 v' (l ++ num2 n).length (BL (l ++ num2 n)) ∧ Below base w w' ∧ ∀ b, b < w.heap.size → some b ≠ v.ownBlock → w'.heap[b]? = w.heap[b]? := by
  obtain ⟨i0, hi, hz0, hz1, hz2⟩ := info_parts Tryz.info5
  have hv : ∃ ao m c, v = .slice ao m c := by
    rcases hown.2 with ⟨rfl, _⟩ | ⟨g', cp, cur, rfl, _⟩
    · exact ⟨_, _, _, rfl⟩
    · exact ⟨_, _, _, rfl⟩
  obtain ⟨ao, m, c, rfl⟩ := hv
  go_enter Tryz.func79, Tryz.ntmps79
  go_wp2_with (at_builtin; refine wpList_append_own _ rfl (.tmp 5) (.tmp 11) 75 rfl base 5 i0 (.int .u8 0) 1 1 Tryz.underlying75 hi hz0 hz1 hz2 rfl (by decide) (.slice ao m c) l.length (BL l) rfl (hown.alloc _) ⟨w.heap.size, 0, none⟩ 2 2 [.int .u8 ((n : Int) / 256), .int .u8 ((n : Int) % 256)] rfl rfl (cell_arr_new w 5 #[.int .u8 ((n : Int) / 256), .int .u8 ((n : Int) % 256)]) (fun u hu => by simp at hu; rcases hu with rfl | rfl <;> rfl) (by unfold maxLen; omega) (by omega) (by simp; omega) ?_; intro v' w1 hown1 hgr1 _)
  go_ret
  rw [BL_num2 n hn, BL_append] at hown1
  exact ⟨v', rfl, by rw [List.length_append, num2_length]; exact hown1, ((Below.refl _ _).alloc hbase _).grown hgr1 (by simp; omega) (fun k hk => (hown.lt k hk).1), fun b hb hne => (hgr1.block b (by simp; omega) hne).trans (Below.heap_alloc w _ b hb)⟩


/-- The parts of an image. -/
def bodyB (s1 : ByteArray) (e1 : Nat) (s2 : ByteArray) (e2 rate : Nat) (f : Nat → Nat) : Nat → List UInt8
  | 0 => num2 s1.size ++ [UInt8.ofNat rate]
  | 1 => sideB s1 e1
  | 2 => sideB s2 e2
  | _ => keptB f rate (s1.size + 1)
/-- The first parts, each with its number and its length ahead. -/
def imgB (b : Nat → List UInt8) : Nat → List UInt8
  | 0 => []
  | k + 1 => imgB b k ++ [UInt8.ofNat k] ++ num2 (b k).length ++ b k
theorem bodyB_length (s1 : ByteArray) (e1 : Nat) (s2 : ByteArray) (e2 rate : Nat) (f : Nat → Nat) (hn1 : s1.size ≤ 2000) (hn2 : s2.size ≤ 2000) (k : Nat) : (bodyB s1 e1 s2 e2 rate f k).length ≤ 6000 ∧ 0 < (bodyB s1 e1 s2 e2 rate f k).length := by
  unfold bodyB
  split
  · simp [num2]
  · have := sideB_length s1 e1 hn1; omega
  · have := sideB_length s2 e2 hn2; omega
  · have h1 := keptL_length f rate (s1.size + 1)
    simp only [keptB, List.length_append, packed_length, nums_length]
    omega
theorem imgB_length (b : Nat → List UInt8) (hb : ∀ k, (b k).length ≤ 6000) (k : Nat) : (imgB b k).length ≤ 6003 * k := by
  induction k with
  | zero => simp [imgB]
  | succ k ih => have := hb k; simp only [imgB, List.length_append, num2_length, List.length_cons, List.length_nil]; omega

theorem bodyOf_any (w : World) (g e1 e2 rate k : Nat) (s1 s2 : ByteArray) (f : Nat → Nat) (h : IndexQ w g s1 e1 s2 e2 rate f) (hn : s1.size ≤ 2000) (hn2 : s2.size ≤ 2000) (hr : rate ≤ 64) (he1 : e1 ≤ 60000) (he2 : e2 ≤ 60000) (hf : ∀ r, r < s1.size + 1 → f r ≤ 2000) (hk : k < 4) :
    Calls Tryz.prog 78 #[.pointer (some ⟨g, 0, none⟩), .int .i64 (k : Int)] w fun en w' => ∃ v, en = .returned v ∧ OwnG w' w.heap.size v (bodyB s1 e1 s2 e2 rate f k) ∧ Below w.heap.size w w' := by
  rcases (show k = 0 ∨ k = 1 ∨ k = 2 ∨ k = 3 by omega) with rfl | rfl | rfl | rfl
  · exact bodyOf_0 w g e1 e2 rate s1 s2 f h hn hr
  · exact bodyOf_1 w g e1 e2 rate s1 s2 f h hn he1
  · exact bodyOf_2 w g e1 e2 rate s1 s2 f h hn2 he2
  · exact bodyOf_3 w g e1 e2 rate s1 s2 f h hn hf

set_option maxRecDepth 10000 in
set_option maxHeartbeats 1000000 in
theorem image_any (w : World) (g e1 e2 rate : Nat) (s1 s2 : ByteArray) (f : Nat → Nat) (h : IndexQ w g s1 e1 s2 e2 rate f) (hn : s1.size ≤ 2000) (hn2 : s2.size ≤ 2000) (hr : rate ≤ 64) (he1 : e1 ≤ 60000) (he2 : e2 ≤ 60000) (hf : ∀ r, r < s1.size + 1 → f r ≤ 2000) :
    Calls Tryz.prog 53 #[.pointer (some ⟨g, 0, none⟩)] w fun en w' => en = .returned (.string (bs (imgB (bodyB s1 e1 s2 e2 rate f) 4))) ∧ Below w.heap.size w w' := by
  obtain ⟨i0, hi, hz0, hz1, hz2⟩ := info_parts Tryz.info5
  have HBO : Hid (∀ w', Below w.heap.size w w' → ∀ k : Nat, k < 4 → Calls Tryz.prog 78 #[.pointer (some ⟨g, 0, none⟩), .int .i64 (k : Int)] w' fun en w2 => ∃ v, en = .returned v ∧ OwnG w2 w'.heap.size v (bodyB s1 e1 s2 e2 rate f k) ∧ Below w'.heap.size w' w2) := fun w' hb k hk => bodyOf_any w' g e1 e2 rate k s1 s2 f (h.below hb) hn hn2 hr he1 he2 hf hk
  have HL : Hid (∀ k, (bodyB s1 e1 s2 e2 rate f k).length ≤ 6000 ∧ 0 < (bodyB s1 e1 s2 e2 rate f k).length) := bodyB_length s1 e1 s2 e2 rate f hn hn2
  clear h hn hn2 hr he1 he2 hf
  generalize bodyB s1 e1 s2 e2 rate f = B at *
  go_enter Tryz.func53, Tryz.ntmps53
  go_wp2_with fail
  go_loopw [3, 6, 4, 5] (fun v i _ _ wr => ∃ k : Nat, k ≤ 4 ∧ i = .int .i64 (k : Int) ∧ wr.ownsRow w.heap.size 5 1 v (imgB B k).length (BL (imgB B k)) ∧ Below w.heap.size w wr) (fun _ i _ _ _ => 4 - (intOf i).toNat)
  case atStart => exact ⟨0, Nat.zero_le _, rfl, World.ownsRow_nil _ _ _ _, Below.refl _ _⟩
  case round =>
    obtain ⟨k, hk, rfl, hown, hb⟩ := hrel
    have hil := imgB_length B (fun k => (HL.out k).1) k
    by_cases hlt : k < 4
    · have hbl := HL.out k
      go_wp2_with fail
      refine (HBO.out wr hb k hlt).mono ?_
      rintro en w1 ⟨vb, rfl, hG1, hb1⟩
      have hown1 := own_below hown hb1
      have hb01 := hb.trans (hb1.mono hb.size)
      have hsz1 := hb01.size
      obtain ⟨gb, cb, rfl, hg2, hg3, hg4, hg5, hg6⟩ := id hG1
      have hv : ∃ ao m c, u3 = .slice ao m c := by
        rcases hown.2 with ⟨rfl, _⟩ | ⟨g', cp, cur, rfl, _⟩
        · exact ⟨_, _, _, rfl⟩
        · exact ⟨_, _, _, rfl⟩
      obtain ⟨ao, m, c, rfl⟩ := hv
      have hkb : ((UInt8.ofNat k).toNat : Int) = (k : Int) := by rw [ofNat_toNat (by omega)]
      have HKB : Hid ([Value.int .u8 (k : Int)] = BL [UInt8.ofNat k]) := by
        show _ = [Value.int .u8 ((UInt8.ofNat k).toNat : Int)]
        rw [hkb]
      have hownr := hown
      clear hkb hown hb
      have hne1 : some gb ≠ (Value.slice ao m c).ownBlock := fun e => by
        have := (hownr.lt gb e.symm).2
        omega
      go_wp2_with (at_builtin; refine wpList_append_own_at _ rfl (.tmp 12) (.tmp 15) 75 rfl w.heap.size 5 i0 (.int .u8 0) 1 1 Tryz.underlying75 hi hz0 hz1 hz2 rfl (by decide) (.slice ao m c) (imgB B k).length (BL (imgB B k)) rfl (hown1.alloc _) ⟨w1.heap.size, 0, none⟩ 1 1 [.int .u8 (k : Int)] rfl rfl (cell_one_new _ _ _) (fun u hu => by simp at hu; subst hu; rfl) (by unfold maxLen; omega) (by omega) (by simp; omega) ?_; intro v2 w2 hown2 hgr2 _ hat2)
      rw [HKB.out, BL_append] at hown2
      have hown2' : w2.ownsRow w.heap.size 5 1 v2 (imgB B k ++ [UInt8.ofNat k]).length (BL (imgB B k ++ [UInt8.ofNat k])) := by rw [List.length_append]; exact hown2
      have hb2 : Below w.heap.size w w2 := (hb01.alloc hsz1 _).grown hgr2 (by simp; omega) (fun k hk => (hown1.lt k hk).1)
      have hgb2 : w2.heap[gb]? = w1.heap[gb]? := (hgr2.block gb (by simp; omega) hne1).trans (Below.heap_alloc w1 _ gb hg3)
      have hsz2 := hb2.size
      have hgl2 : gb < w2.heap.size := by have := hgr2.size; simp at this; omega
      have hne2 : some gb ≠ v2.ownBlock := fun e => by
        rcases hat2 with h | h
        · rw [h] at e; exact hne1 e
        · rw [h] at e; simp at e; omega
      have hl2 : (imgB B k ++ [UInt8.ofNat k]).length ≤ 100000 := by rw [List.length_append]; simp; omega
      obtain ⟨ao2, m2, c2, rfl⟩ : ∃ ao m c, v2 = .slice ao m c := by
        rcases hown2.2 with ⟨rfl, _⟩ | ⟨g', cp, cur, rfl, _⟩
        · exact ⟨_, _, _, rfl⟩
        · exact ⟨_, _, _, rfl⟩
      clear hown2 hgr2 hat2 hne1 hown1 hb01 HKB
      go_wp2_with fail
      refine (appendNumber_keep w.heap.size (.slice ao2 m2 c2) (imgB B k ++ [UInt8.ofNat k]) (B k).length w2 hown2' hl2 (by omega) hsz2).mono ?_
      rintro en w3 ⟨v3, rfl, hown3, hb3, hk3⟩
      have hgb3 : w3.heap[gb]? = w1.heap[gb]? := (hk3 gb hgl2 hne2).trans hgb2
      have hb03 := hb2.trans hb3
      have hsz3 := hb03.size
      have hcells : ∀ j u, (BL (B k))[j]? = some u → w3.cell? ((⟨gb, 0, none⟩ : Addr).add j) = some u := fun j u hu => by
        have h2 : (⟨gb, 0, none⟩ : Addr).add j = ⟨gb, j, none⟩ := by
          unfold Addr.add
          by_cases e : j = 0
          · simp [e]
          · simp [e]
        rw [h2]
        have := hg5 j u hu
        simp only [World.cell?, hgb3] at this ⊢
        exact this
      obtain ⟨ao3, m3, c3, rfl⟩ : ∃ ao m c, v3 = .slice ao m c := by
        rcases hown3.2 with ⟨rfl, _⟩ | ⟨g', cp, cur, rfl, _⟩
        · exact ⟨_, _, _, rfl⟩
        · exact ⟨_, _, _, rfl⟩
      have hl3 : (imgB B k ++ [UInt8.ofNat k] ++ num2 (B k).length).length ≤ 100000 := by rw [List.length_append, List.length_append, num2_length]; simp; omega
      clear hown2' hb2 hk3 hb3 hg5 hg6 hgb2 hgb3 hG1
      have HIM : Hid (imgB B (k + 1) = imgB B k ++ [UInt8.ofNat k] ++ num2 (B k).length ++ B k) := rfl
      have hone : ∀ u ∈ BL (B k), u.oneCell' = true := fun u hu => by
        simp only [BL, List.mem_map] at hu
        obtain ⟨x, _, rfl⟩ := hu
        rfl
      go_wp2_with (at_builtin; refine wpList_append_own _ rfl (.tmp 21) (.tmp 22) 75 rfl w.heap.size 5 i0 (.int .u8 0) 1 1 Tryz.underlying75 hi hz0 hz1 hz2 rfl (by decide) (.slice ao3 m3 c3) (imgB B k ++ [UInt8.ofNat k] ++ num2 (B k).length).length (BL (imgB B k ++ [UInt8.ofNat k] ++ num2 (B k).length)) rfl hown3 ⟨gb, 0, none⟩ (B k).length cb (BL (B k)) rfl (by rw [BL_length, Nat.mul_one]) hcells hone (by unfold maxLen; omega) (by omega) hsz3 ?_; intro v4 w4 hown4 hgr4 _)
      have hb4 : Below w.heap.size w w4 := hb03.grown hgr4 hsz3 (fun k hk => (hown3.lt k hk).1)
      rw [BL_append, ← HIM.out] at hown4
      go_roundw
      case rel => exact ⟨k + 1, by omega, by go_num, by rw [HIM.out, List.length_append, ← HIM.out]; exact hown4, hb4⟩
      case measure => simp [intOf]; omega
    · have hk4 : k = 4 := by omega
      subst hk4
      have hcv := conv_own hown
      go_wp2
      go_ret
      exact ⟨rfl, hb⟩
end Go.Proofs.YtkebgnpifmcmaabGreat

namespace Go.Proofs.YtkebgnpifmcmaabGreat
open Go.RowKit

/-- The bytes are an image of this text, at this rate. -/
def IsImg (t : List UInt8) (rate : Nat) (im : List UInt8) : Prop :=
  ∃ f f2, IsSA t f ∧ IsSA t.reverse f2 ∧ im = imgB (bodyB (bs (pre t f (t.length + 1))) (endOf f (t.length + 1)) (bs (pre t.reverse f2 (t.length + 1))) (endOf f2 (t.length + 1)) rate f) 4

theorem image_of (w : World) (g rate : Nat) (t : List UInt8) (h : IndexP w g t rate) (hn : t.length ≤ 2000) (hr : rate ≤ 64) :
    Calls Tryz.prog 53 #[.pointer (some ⟨g, 0, none⟩)] w fun en w' => ∃ im, IsImg t rate im ∧ en = .returned (.string (bs im)) ∧ Below w.heap.size w w' := by
  obtain ⟨f, f2, hf, hf2, hq⟩ := h
  have l1 := bwt_length hf
  have l2 := bwt_length hf2
  rw [List.length_reverse] at l2
  have e1 := (sa_end hf).1
  have e2 := (sa_end hf2).1
  rw [List.length_reverse] at e2
  refine (image_any w g _ _ rate _ _ f hq (by rw [bs_size, l1]; exact hn) (by rw [bs_size, l2]; exact hn) hr (by omega) (by omega) (fun r hr => ?_)).mono ?_
  · rw [bs_size, l1] at hr
    exact Nat.le_trans (hf.le r (by omega)) hn
  · rintro en w' ⟨rfl, hb⟩
    exact ⟨_, ⟨f, f2, hf, hf2, rfl⟩, rfl, hb⟩

set_option maxRecDepth 10000 in
theorem build_ok (s : ByteArray) (rate : Nat) (w : World) (hn : s.size ≤ 2000) (hr0 : 1 ≤ rate) (hr : rate ≤ 64) :
    Calls Tryz.prog 30 #[.string s, .int .i64 (rate : Int)] w fun en w' => ∃ im, IsImg (tx s) rate im ∧ en = .returned (.tuple #[.string (bs im), .int .i64 0]) ∧ Below w.heap.size w w' := by
  go_enter Tryz.func30, Tryz.ntmps30
  go_wp2_with fail
  refine (indexOf_any s rate w hn (by omega)).mono ?_
  rintro en w1 ⟨g, rfl, hI, hb1⟩
  go_wp2_with fail
  refine (image_of w1 g rate (tx s) hI (by rw [tx_length]; exact hn) hr).mono ?_
  rintro en w2 ⟨im, hIm, rfl, hb2⟩
  go_wp2
  go_ret2
  exact ⟨im, hIm, rfl, hb1.trans (hb2.mono hb1.size)⟩
set_option maxRecDepth 10000 in
theorem build_long (s : ByteArray) (x : Int) (w : World) (hm : s.size ≤ maxLen) (hn : 2000 < s.size) :
    Calls Tryz.prog 30 #[.string s, .int .i64 x] w fun en w' => en = .returned (.tuple #[.string ByteArray.empty, .int .i64 1]) ∧ w' = w := by
  unfold maxLen at hm
  go_enter Tryz.func30, Tryz.ntmps30
  go_wp2
  go_ret2
  exact ⟨rfl, rfl⟩
set_option maxRecDepth 10000 in
theorem build_rate (s : ByteArray) (x : Int) (w : World) (hn : s.size ≤ 2000) (hx : x < 1 ∨ 64 < x) :
    Calls Tryz.prog 30 #[.string s, .int .i64 x] w fun en w' => en = .returned (.tuple #[.string ByteArray.empty, .int .i64 2]) ∧ w' = w := by
  rcases hx with h | h
  · have hd : decide (x < 1) = true := by simpa using h
    go_enter Tryz.func30, Tryz.ntmps30
    go_wp2_with fail
    go_ret2
    exact ⟨rfl, rfl⟩
  · have hd : decide (x < 1) = false := by simp; omega
    have hd2 : decide (64 < x) = true := by simpa using h
    go_enter Tryz.func30, Tryz.ntmps30
    go_wp2_with fail
    go_ret2
    exact ⟨rfl, rfl⟩

/-- Only one block has changed. -/
def Only (g : Nat) (w w' : World) : Prop := w'.heap.size = w.heap.size ∧ (∀ b, b ≠ g → w'.heap[b]? = w.heap[b]?) ∧ Below g w w'
theorem Only.refl (g : Nat) (w : World) : Only g w w := ⟨rfl, fun _ _ => rfl, Below.refl _ _⟩
theorem Only.trans {g : Nat} {a b c : World} (h : Only g a b) (h' : Only g b c) : Only g a c := ⟨h'.1.trans h.1, fun x hx => (h'.2.1 x hx).trans (h.2.1 x hx), h.2.2.trans h'.2.2⟩
theorem Only.set (g j : Nat) (w : World) (u : Value) : Only g w (w.setCell ⟨g, j, none⟩ u) := by
  refine ⟨by simp, fun b hb => Below.heap_setCell w ⟨g, j, none⟩ u b hb, ?_⟩
  exact (Below.refl g w).setCell (by show g ≤ g; omega) u

/-- A reader, in memory. -/
def Rdr (w : World) (g : Nat) (s : ByteArray) (sh : Bool) : Prop := Blk w g 161 #[.string s, .bool sh]

set_option maxRecDepth 10000 in
theorem take_short (g c : Nat) (s : ByteArray) (sh : Bool) (w : World) (h : Rdr w g s sh) (hs : sh = true ∨ s.size < c) :
    Calls Tryz.prog 116 #[.pointer (some ⟨g, 0, none⟩), .int .i64 (c : Int)] w fun e w' => e = .returned (.string ByteArray.empty) ∧ Rdr w' g s true ∧ Only g w w' := by
  have hc0 : w.cell? ⟨g, 0, none⟩ = some (.string s) := h.cell 0
  have hc1 : w.cell? ⟨g, 1, none⟩ = some (.bool sh) := h.cell 1
  have hf1 := h.free 1
  have hR : Rdr (w.setCell ⟨g, 1, none⟩ (.bool true)) g s true := h.set 1 _
  cases sh with
  | true =>
    clear hs
    go_enter Tryz.func116, Tryz.ntmps116
    go_wp2_with fail
    go_ret
    exact ⟨rfl, hR, Only.set _ _ _ _⟩
  | false =>
    have hlt : s.size < c := by simpa using hs
    clear hs
    go_enter Tryz.func116, Tryz.ntmps116
    go_wp2_with fail
    go_ret
    exact ⟨rfl, hR, Only.set _ _ _ _⟩
set_option maxRecDepth 10000 in
set_option maxHeartbeats 400000 in
theorem take_long (g c : Nat) (s : ByteArray) (w : World) (h : Rdr w g s false) (hs : c ≤ s.size) :
    Calls Tryz.prog 116 #[.pointer (some ⟨g, 0, none⟩), .int .i64 (c : Int)] w fun e w' => e = .returned (.string (s.extract 0 c)) ∧ Rdr w' g (s.extract c s.size) false ∧ Only g w w' := by
  have hc0 : w.cell? ⟨g, 0, none⟩ = some (.string s) := h.cell 0
  have hc1 : w.cell? ⟨g, 1, none⟩ = some (.bool false) := h.cell 1
  have hf0 := h.free 0
  have hq1 : (0 : Int) ≤ (c : Int) := by omega
  have hq2 : (c : Int) ≤ (s.size : Int) := by omega
  go_enter Tryz.func116, Tryz.ntmps116
  go_wp2_with fail
  go_ret
  exact ⟨rfl, h.set 0 _, Only.set _ _ _ _⟩

theorem ext_get (s : ByteArray) (c j : Nat) (hj : j < c) (hc : c ≤ s.size) (h : j < (s.extract 0 c).size) : (s.extract 0 c)[j] = s[j] := by
  simp [ByteArray.getElem_extract]
theorem ext_size (s : ByteArray) (c : Nat) (hc : c ≤ s.size) : (s.extract 0 c).size = c := by simp [ByteArray.size_extract]; omega

set_option maxRecDepth 10000 in
theorem byte_short (g : Nat) (s : ByteArray) (sh : Bool) (w : World) (h : Rdr w g s sh) (hs : sh = true ∨ s.size < 1) :
    Calls Tryz.prog 115 #[.pointer (some ⟨g, 0, none⟩)] w fun e w' => e = .returned (.int .i64 0) ∧ Rdr w' g s true ∧ Only g w w' := by
  go_enter Tryz.func115, Tryz.ntmps115
  go_wp2_with fail
  refine (take_short g 1 s sh w h hs).mono ?_
  rintro e w1 ⟨rfl, hR, hO⟩
  have hc1 : w1.cell? ⟨g, 1, none⟩ = some (.bool true) := hR.cell 1
  go_wp2
  go_ret
  exact ⟨rfl, hR, hO⟩
set_option maxRecDepth 10000 in
theorem byte_long (g : Nat) (s : ByteArray) (w : World) (h : Rdr w g s false) (hs : 1 ≤ s.size) :
    Calls Tryz.prog 115 #[.pointer (some ⟨g, 0, none⟩)] w fun e w' => e = .returned (.int .i64 ((s[0]).toNat : Int)) ∧ Rdr w' g (s.extract 1 s.size) false ∧ Only g w w' := by
  have hz := ext_size s 1 hs
  have HG : Hid ((s.extract 0 1)[0] = s[0]) := ext_get s 1 0 (by omega) hs (by omega)
  go_enter Tryz.func115, Tryz.ntmps115
  go_wp2_with fail
  refine (take_long g 1 s w h hs).mono ?_
  rintro e w1 ⟨rfl, hR, hO⟩
  have hc1 : w1.cell? ⟨g, 1, none⟩ = some (.bool false) := hR.cell 1
  have hby := (s.extract 0 1)[0].toNat_lt
  go_wp2
  go_ret
  exact ⟨by rw [← HG.out]; rfl, hR, hO⟩
set_option maxRecDepth 10000 in
theorem number_short (g : Nat) (s : ByteArray) (sh : Bool) (w : World) (h : Rdr w g s sh) (hs : sh = true ∨ s.size < 2) :
    Calls Tryz.prog 117 #[.pointer (some ⟨g, 0, none⟩)] w fun e w' => e = .returned (.int .i64 0) ∧ Rdr w' g s true ∧ Only g w w' := by
  go_enter Tryz.func117, Tryz.ntmps117
  go_wp2_with fail
  refine (take_short g 2 s sh w h hs).mono ?_
  rintro e w1 ⟨rfl, hR, hO⟩
  have hc1 : w1.cell? ⟨g, 1, none⟩ = some (.bool true) := hR.cell 1
  go_wp2
  go_ret
  exact ⟨rfl, hR, hO⟩
set_option maxRecDepth 10000 in
set_option maxHeartbeats 400000 in
theorem number_long (g : Nat) (s : ByteArray) (w : World) (h : Rdr w g s false) (hs : 2 ≤ s.size) :
    Calls Tryz.prog 117 #[.pointer (some ⟨g, 0, none⟩)] w fun e w' => e = .returned (.int .i64 (((s[0]).toNat * 256 + (s[1]).toNat : Nat) : Int)) ∧ Rdr w' g (s.extract 2 s.size) false ∧ Only g w w' := by
  have hz := ext_size s 2 hs
  have HG : Hid ((s.extract 0 2)[0] = s[0]) := ext_get s 2 0 (by omega) hs (by omega)
  have HG1 : Hid ((s.extract 0 2)[1] = s[1]) := ext_get s 2 1 (by omega) hs (by omega)
  go_enter Tryz.func117, Tryz.ntmps117
  go_wp2_with fail
  refine (take_long g 2 s w h hs).mono ?_
  rintro e w1 ⟨rfl, hR, hO⟩
  have hc1 : w1.cell? ⟨g, 1, none⟩ = some (.bool false) := hR.cell 1
  have hby := (s.extract 0 2)[0].toNat_lt
  have hby1 := (s.extract 0 2)[1].toNat_lt
  have HV : Hid (bits BinOp.or IntKind.i64 (((s.extract 0 2)[0].toNat : Int) * 256) ((s.extract 0 2)[1].toNat : Int) = (((s[0]).toNat * 256 + (s[1]).toNat : Nat) : Int)) := by
    show bits BinOp.or IntKind.i64 (((s.extract 0 2)[0].toNat : Int) * 256) ((s.extract 0 2)[1].toNat : Int) = _
    rw [HG.out, HG1.out]
    have hb0 := (s[0]).toNat_lt
    have hb1 := (s[1]).toNat_lt
    have e1 : ((s[0]).toNat : Int) * (256 : Int) = (((s[0]).toNat * 256 : Nat) : Int) := by omega
    rw [e1, (bits_nat .i64 63 (by decide) (fun n h1 h2 => by rw [IntKind.wrap_i64]; omega) _ _ (by omega) (by omega)).2]
    have := Nat.two_pow_add_eq_or_of_lt (i := 8) (b := (s[1]).toNat) (by omega) (s[0]).toNat
    rw [show (s[0]).toNat * 256 = 2 ^ 8 * (s[0]).toNat from by omega, ← this]
  clear HG HG1
  have hO2 : ∀ q, Only g w (w1.drewN q) := fun q => ⟨hO.1, hO.2.1, bdrewN hO.2.2 q⟩
  go_wp2_with fail
  go_quiet (fail)
  go_wp2
  go_ret
  exact ⟨by rw [← HV.out]; rfl, hR, hO2 _⟩
end Go.Proofs.YtkebgnpifmcmaabGreat

namespace Go.Proofs.YtkebgnpifmcmaabGreat
open Go.RowKit

/-- What a reader does, as a function. -/
def rTake (r : ByteArray × Bool) (c : Nat) : ByteArray × (ByteArray × Bool) := if r.2 = true ∨ r.1.size < c then (ByteArray.empty, (r.1, true)) else (r.1.extract 0 c, (r.1.extract c r.1.size, false))
def rByte (r : ByteArray × Bool) : Nat × (ByteArray × Bool) := if h : r.2 = true ∨ r.1.size < 1 then (0, (r.1, true)) else ((r.1[0]'(by omega)).toNat, (r.1.extract 1 r.1.size, false))
def rNum (r : ByteArray × Bool) : Nat × (ByteArray × Bool) := if h : r.2 = true ∨ r.1.size < 2 then (0, (r.1, true)) else ((r.1[0]'(by omega)).toNat * 256 + (r.1[1]'(by omega)).toNat, (r.1.extract 2 r.1.size, false))
def RdrP (w : World) (g : Nat) (r : ByteArray × Bool) : Prop := Rdr w g r.1 r.2

theorem take_any (g c : Nat) (r : ByteArray × Bool) (w : World) (h : RdrP w g r) :
    Calls Tryz.prog 116 #[.pointer (some ⟨g, 0, none⟩), .int .i64 (c : Int)] w fun e w' => e = .returned (.string (rTake r c).1) ∧ RdrP w' g (rTake r c).2 ∧ Only g w w' := by
  unfold rTake
  by_cases hs : r.2 = true ∨ r.1.size < c
  · rw [if_pos hs]; exact take_short g c r.1 r.2 w h hs
  · rw [if_neg hs]
    have h2 : r.2 = false := by simpa using fun h => hs (.inl h)
    have h3 : Rdr w g r.1 false := by have := h; unfold RdrP at this; rw [h2] at this; exact this
    exact take_long g c r.1 w h3 (by omega)
theorem byte_any (g : Nat) (r : ByteArray × Bool) (w : World) (h : RdrP w g r) :
    Calls Tryz.prog 115 #[.pointer (some ⟨g, 0, none⟩)] w fun e w' => e = .returned (.int .i64 ((rByte r).1 : Int)) ∧ RdrP w' g (rByte r).2 ∧ Only g w w' := by
  unfold rByte
  by_cases hs : r.2 = true ∨ r.1.size < 1
  · rw [dif_pos hs]; exact byte_short g r.1 r.2 w h hs
  · rw [dif_neg hs]
    have h2 : r.2 = false := by simpa using fun h => hs (.inl h)
    have h3 : Rdr w g r.1 false := by have := h; unfold RdrP at this; rw [h2] at this; exact this
    exact byte_long g r.1 w h3 (by omega)
theorem number_any (g : Nat) (r : ByteArray × Bool) (w : World) (h : RdrP w g r) :
    Calls Tryz.prog 117 #[.pointer (some ⟨g, 0, none⟩)] w fun e w' => e = .returned (.int .i64 ((rNum r).1 : Int)) ∧ RdrP w' g (rNum r).2 ∧ Only g w w' := by
  unfold rNum
  by_cases hs : r.2 = true ∨ r.1.size < 2
  · rw [dif_pos hs]; exact number_short g r.1 r.2 w h hs
  · rw [dif_neg hs]
    have h2 : r.2 = false := by simpa using fun h => hs (.inl h)
    have h3 : Rdr w g r.1 false := by have := h; unfold RdrP at this; rw [h2] at this; exact this
    exact number_long g r.1 w h3 (by omega)
theorem rByte_lt (r : ByteArray × Bool) : (rByte r).1 < 256 := by
  unfold rByte; split
  · exact Nat.zero_lt_succ _
  · exact UInt8.toNat_lt _
theorem rNum_lt (r : ByteArray × Bool) : (rNum r).1 < 65536 := by
  unfold rNum; split
  · exact Nat.zero_lt_succ _
  · have h1 := (r.1[0]'(by omega)).toNat_lt
    have h2 := (r.1[1]'(by omega)).toNat_lt
    show (r.1[0]'(by omega)).toNat * 256 + (r.1[1]'(by omega)).toNat < 65536
    omega

/-- One part: its number, its bytes, and what is left. -/
def rPart (r : ByteArray × Bool) : Nat × ByteArray × (ByteArray × Bool) := ((rByte r).1, (rTake (rNum (rByte r).2).2 (rNum (rByte r).2).1).1, (rTake (rNum (rByte r).2).2 (rNum (rByte r).2).1).2)
def rSt (im : ByteArray) : Nat → ByteArray × Bool
  | 0 => (im, false)
  | k + 1 => (rPart (rSt im k)).2.2
def rBody (im : ByteArray) (k : Nat) : ByteArray := (rPart (rSt im k)).2.1
def rTags (im : ByteArray) : Prop := ∀ j, j < 4 → (rPart (rSt im j)).1 = j

theorem infoSplit : (Tryz.prog.info? 121).map (·.size) = some 4 := by kernel_rfl

theorem results_cell_tmp_row {fn : Func} {p u : Tmp} {ty : TypeId} (h : fn.results = #[.cell p ty, .tmp u]) (tmps : Array Value) (w : World) (g : Nat) (cs : Array Value) (x : Value)
    (hp : tmps.getD p undef = .pointer (some ⟨g, 0, none⟩)) (hx : tmps.getD u undef = x) (hl : (loadVar ty ⟨g, 0, none⟩).run Tryz.prog w = .ok (.agg cs) w) :
    (results fn tmps).run Tryz.prog w = .ok (.tuple #[.agg cs, x]) w := by
  rw [results_cell_tmp h, hp, hx]
  simp [asAddr, hl, Result.andThen]
theorem Only.below {g B : Nat} {a w w' : World} (h : Only g w w') (hb : Below B a w) (hB : B ≤ g) : Below B a w' := hb.trans (h.2.2.mono hB)
theorem Blk.only {g b : Nat} {w w' : World} {T : TypeId} {cs : Array Value} (h : Blk w b T cs) (ho : Only g w w') (hne : b ≠ g) : Blk w' b T cs := h.block (ho.2.1 b hne)
/-- Four strings. -/
def S4 (F : Nat → ByteArray) : Array Value := #[.string (F 0), .string (F 1), .string (F 2), .string (F 3)]
theorem S4_set (F : Nat → ByteArray) (k : Nat) (hk : k < 4) (x : ByteArray) : (S4 F).setIfInBounds k (.string x) = S4 (upd F k x) := by
  rcases (show k = 0 ∨ k = 1 ∨ k = 2 ∨ k = 3 by omega) with rfl | rfl | rfl | rfl <;> rfl

set_option maxRecDepth 10000 in
set_option maxHeartbeats 1000000 in
theorem split_any (im : ByteArray) (w : World) :
    Calls Tryz.prog 83 #[.string im] w fun e w' => ((rTags im ∧ e = .returned (.tuple #[.agg (S4 (rBody im)), .bool (!(rSt im 4).2)])) ∨ (¬ rTags im ∧ ∃ F, e = .returned (.tuple #[.agg (S4 F), .bool false]))) ∧ Below w.heap.size w w' := by
  have hA := allocs3 w (.cells (S4 fun _ => { data := #[] }) 121) (.cells (S4 fun _ => { data := #[] }) 121) (.cells #[.string im, .bool false] 161)
  unfold S4 at hA
  go_enter Tryz.func83, Tryz.ntmps83
  go_wp2_with fail
  generalize ((w.alloc (.cells #[.string { data := #[] }, .string { data := #[] }, .string { data := #[] }, .string { data := #[] }] 121)).alloc (.cells #[.string { data := #[] }, .string { data := #[] }, .string { data := #[] }, .string { data := #[] }] 121)).alloc (.cells #[.string im, .bool false] 161) = W0 at *
  obtain ⟨k0, k1, k2, hb0, hs0⟩ := hA
  obtain ⟨G, hG⟩ : ∃ G, G = w.heap.size := ⟨_, rfl⟩
  rw [← hG] at k0 k1 k2 hb0 ⊢
  have HG : Hid (G = w.heap.size) := hG
  clear hG hs0
  go_loopw [9, 6] (fun iv _ wr => ∃ k : Nat, k ≤ 4 ∧ iv = .int .i64 (k : Int) ∧ Blk wr G 121 (S4 fun _ => { data := #[] }) ∧ (∃ F, Blk wr (G + 1) 121 (S4 F) ∧ Hid (∀ j, j < k → F j = rBody im j)) ∧ RdrP wr (G + 1 + 1) (rSt im k) ∧ Hid (∀ j, j < k → (rPart (rSt im j)).1 = j) ∧ Below G w wr) (fun iv _ _ => 4 - (intOf iv).toNat)
  case atStart => exact ⟨0, Nat.zero_le _, rfl, k0, ⟨fun _ => { data := #[] }, k1, fun j hj => by omega⟩, k2, fun j hj => by omega, hb0⟩
  case round =>
    clear k0 k1 k2 hb0
    obtain ⟨k, hk, rfl, k0, ⟨F, k1, HF⟩, hR, HT, hb⟩ := hrel
    have HST : Hid (rSt im (k + 1) = (rPart (rSt im k)).2.2) := rfl
    have HBD : Hid (rBody im k = (rPart (rSt im k)).2.1) := rfl
    by_cases hlt : k < 4
    · have HBC : Hid _ := byte_any (G + 1 + 1) (rSt im k) wr hR
      have hbl := rByte_lt (rSt im k)
      go_wp2_with fail
      refine Calls.mono HBC.out ?_
      clear HBC hR
      rintro en w1 ⟨rfl, hR1, hO1⟩
      have k01 := k0.only hO1 (by omega)
      have k11 := k1.only hO1 (by omega)
      have hb1 := hO1.below hb (by omega)
      clear k0 k1 hb hO1
      have hd0 : w1.cell? ⟨G + 1, 0, none⟩ = some (.string (F 0)) := k11.cell 0
      have hd1 : w1.cell? ⟨G + 1, 1, none⟩ = some (.string (F 1)) := k11.cell 1
      have hd2 : w1.cell? ⟨G + 1, 2, none⟩ = some (.string (F 2)) := k11.cell 2
      have hd3 : w1.cell? ⟨G + 1, 3, none⟩ = some (.string (F 3)) := k11.cell 3
      have he0 : w1.cell? ⟨G, 0, none⟩ = some (.string { data := #[] }) := k01.cell 0
      have he1 : w1.cell? ⟨G, 1, none⟩ = some (.string { data := #[] }) := k01.cell 1
      have he2 : w1.cell? ⟨G, 2, none⟩ = some (.string { data := #[] }) := k01.cell 2
      have he3 : w1.cell? ⟨G, 3, none⟩ = some (.string { data := #[] }) := k01.cell 3
      have hf0 := k01.free 0
      have hf1 := k01.free 1
      have hf2 := k01.free 2
      have hf3 := k01.free 3
      by_cases htag : (rByte (rSt im k)).1 = k
      · have hdt : (((rByte (rSt im k)).1 : Int) == (k : Int)) = true := by simp [htag]
        have HTG : Hid ((rPart (rSt im k)).1 = k) := htag
        clear htag hd0 hd1 hd2 hd3 he0 he1 he2 he3 hf0 hf1 hf2 hf3
        have HNC : Hid _ := number_any (G + 1 + 1) (rByte (rSt im k)).2 w1 hR1
        generalize (rByte (rSt im k)).1 = TG at *
        go_wp2_with fail
        refine Calls.mono HNC.out ?_
        clear HNC hR1
        rintro en w2 ⟨rfl, hR2, hO2⟩
        have HTC : Hid _ := take_any (G + 1 + 1) (rNum (rByte (rSt im k)).2).1 (rNum (rByte (rSt im k)).2).2 w2 hR2
        have hNl := rNum_lt (rByte (rSt im k)).2
        have k02 := k01.only hO2 (by omega)
        have k12 := k11.only hO2 (by omega)
        have hb2 := hO2.below hb1 (by omega)
        clear k01 k11 hb1 hO2 hR2
        go_wp2_with fail
        refine Calls.mono HTC.out ?_
        clear HTC
        rintro en w3 ⟨rfl, hR3, hO3⟩
        have k03 := k02.only hO3 (by omega)
        have k13 := k12.only hO3 (by omega)
        have hb3 := hO3.below hb2 (by omega)
        clear k02 k12 hb2 hO3
        have hck : (w3.cell? ⟨G + 1, k, none⟩).isSome = true := by
          rw [k13.cell k]
          rcases (show k = 0 ∨ k = 1 ∨ k = 2 ∨ k = 3 by omega) with h | h | h | h <;> rw [h] <;> rfl
        obtain ⟨vk, hvk⟩ := Option.isSome_iff_exists.1 hck
        have hfk := k13.free k
        have hq1 : (k : Int) < 4 := by omega
        have k13s := k13.set k (.string (rTake (rNum (rByte (rSt im k)).2).2 (rNum (rByte (rSt im k)).2).1).1)
        rw [S4_set F k hlt] at k13s
        have HFN : Hid (∀ j, j < k + 1 → upd F k (rTake (rNum (rByte (rSt im k)).2).2 (rNum (rByte (rSt im k)).2).1).1 j = rBody im j) := upd_next HF.out rfl
        have HTN : Hid (∀ j, j < k + 1 → (rPart (rSt im j)).1 = j) := by
          intro j hj
          by_cases e : j = k
          · rw [e]; exact HTG.out
          · exact HT.out j (by omega)
        have hR3' : RdrP w3 (G + 1 + 1) (rSt im (k + 1)) := hR3
        clear hR3 hck
        generalize (rTake (rNum (rByte (rSt im k)).2).2 (rNum (rByte (rSt im k)).2).1).1 = BD at *
        generalize (rNum (rByte (rSt im k)).2).1 = NN at *
        go_wp2
        go_roundw
        case rel => exact ⟨k + 1, by omega, by go_num, k03.setOther (by show G ≠ G + 1; omega) _, ⟨_, k13s, HFN⟩, Blk.setOther (show Blk w3 (G + 1 + 1) _ _ from hR3') (by show G + 1 + 1 ≠ G + 1; omega) _, HTN, hb3.setCell (by show G ≤ G + 1; omega) _⟩
        case measure => simp [intOf]; omega
      · have hdt : (((rByte (rSt im k)).1 : Int) == (k : Int)) = false := by simp; omega
        have HNT : Hid (¬ rTags im) := fun h => htag (h k hlt)
        clear htag
        generalize (rByte (rSt im k)).1 = TG at *
        go_wp2_with fail
        rw [HG.out] at hb1
        refine bodyPost_ret (v := .tuple #[.agg (S4 F), .bool false]) (results_cell_tmp_row (ty := 121) rfl _ _ G (S4 F) (.bool false) rfl rfl (run_loadVar_row _ G 121 121 (S4 F) (0, 0) _ ((((k01.set 0 _).set 1 _).set 2 _).set 3 _) Tryz.underlying121 rfl infoSplit)) rfl ⟨.inr ⟨HNT.out, F, rfl⟩, ?_⟩
        exact (((hb1.setCell (by rw [← HG.out]; exact Nat.le_refl _) _).setCell (by rw [← HG.out]; exact Nat.le_refl _) _).setCell (by rw [← HG.out]; exact Nat.le_refl _) _).setCell (by rw [← HG.out]; exact Nat.le_refl _) _
    · have hk4 : k = 4 := by omega
      subst hk4
      have HTT : Hid (rTags im) := HT.out
      have HFF : Hid (S4 F = S4 (rBody im)) := by
        show S4 F = S4 (rBody im)
        unfold S4
        rw [HF.out 0 (by omega), HF.out 1 (by omega), HF.out 2 (by omega), HF.out 3 (by omega)]
      have hd0 : wr.cell? ⟨G + 1, 0, none⟩ = some (.string (F 0)) := k1.cell 0
      have hd1 : wr.cell? ⟨G + 1, 1, none⟩ = some (.string (F 1)) := k1.cell 1
      have hd2 : wr.cell? ⟨G + 1, 2, none⟩ = some (.string (F 2)) := k1.cell 2
      have hd3 : wr.cell? ⟨G + 1, 3, none⟩ = some (.string (F 3)) := k1.cell 3
      have he0 : wr.cell? ⟨G, 0, none⟩ = some (.string { data := #[] }) := k0.cell 0
      have he1 : wr.cell? ⟨G, 1, none⟩ = some (.string { data := #[] }) := k0.cell 1
      have he2 : wr.cell? ⟨G, 2, none⟩ = some (.string { data := #[] }) := k0.cell 2
      have he3 : wr.cell? ⟨G, 3, none⟩ = some (.string { data := #[] }) := k0.cell 3
      have hf0 := k0.free 0
      have hf1 := k0.free 1
      have hf2 := k0.free 2
      have hf3 := k0.free 3
      have hr1 : wr.cell? ⟨G + 1 + 1, 1, none⟩ = some (.bool (rSt im 4).2) := Blk.cell hR 1
      clear HST HBD HF HT
      generalize hSH : (rSt im 4).2 = SH at *
      have HSH : Hid ((rSt im 4).2 = SH) := hSH
      clear hSH
      go_wp2_with fail
      go_region
      all_goals go_wp2
      have hkk := (((k0.set 0 (.string (F 0))).set 1 (.string (F 1))).set 2 (.string (F 2))).set 3 (.string (F 3))
      rw [HG.out] at hb
      refine bodyPost_ret (v := .tuple #[.agg (S4 F), .bool (!SH)]) (results_cell_tmp_row (ty := 121) rfl _ _ G (S4 F) (.bool (!SH)) rfl rfl (run_loadVar_row _ G 121 121 (S4 F) (0, 0) _ (show ((((wr.setCell ⟨G, 0, none⟩ (.string (F 0))).setCell ⟨G, 1, none⟩ (.string (F 1))).setCell ⟨G, 2, none⟩ (.string (F 2))).setCell ⟨G, 3, none⟩ (.string (F 3))).drew.heap[G]? = _ from hkk) Tryz.underlying121 rfl infoSplit)) rfl ⟨.inl ⟨HTT.out, by rw [HFF.out, HSH.out]⟩, ?_⟩
      exact ((((hb.setCell (by rw [← HG.out]; exact Nat.le_refl _) _).setCell (by rw [← HG.out]; exact Nat.le_refl _) _).setCell (by rw [← HG.out]; exact Nat.le_refl _) _).setCell (by rw [← HG.out]; exact Nat.le_refl _) _).drew
end Go.Proofs.YtkebgnpifmcmaabGreat

namespace Go.Proofs.YtkebgnpifmcmaabGreat
open Go.RowKit

/-- What the measures say. -/
def mSize (b : ByteArray) : Nat := (rNum (b, false)).1
def mRate (b : ByteArray) : Nat := (rByte (rNum (b, false)).2).1
def mOk (b : ByteArray) : Prop := (rByte (rNum (b, false)).2).2.2 = false ∧ mSize b ≤ 2000 ∧ 1 ≤ mRate b ∧ mRate b ≤ 64

set_option maxRecDepth 10000 in
set_option maxHeartbeats 1000000 in
theorem readMeasures_any (b : ByteArray) (w : World) :
    Calls Tryz.prog 84 #[.string b] w fun e w' => ((mOk b ∧ e = .returned (.tuple #[.int .i64 (mSize b : Int), .int .i64 (mRate b : Int), .bool true])) ∨ (¬ mOk b ∧ e = .returned (.tuple #[.int .i64 (mSize b : Int), .int .i64 (mRate b : Int), .bool false]))) ∧ Below w.heap.size w w' := by
  have k0 := Blk.new w 161 #[.string b, .bool false]
  have hb0 : Below w.heap.size w (w.alloc (.cells #[.string b, .bool false] 161)) := (Below.refl _ _).alloc (Nat.le_refl _) _
  have hl1 := rNum_lt (b, false)
  have hl2 := rByte_lt (rNum (b, false)).2
  have HMO : Hid (mOk b ↔ ((rByte (rNum (b, false)).2).2.2 = false ∧ (rNum (b, false)).1 ≤ 2000 ∧ 1 ≤ (rByte (rNum (b, false)).2).1 ∧ (rByte (rNum (b, false)).2).1 ≤ 64)) := Iff.rfl
  have HE : Hid (mSize b = (rNum (b, false)).1 ∧ mRate b = (rByte (rNum (b, false)).2).1) := ⟨rfl, rfl⟩
  go_enter Tryz.func84, Tryz.ntmps84
  go_wp2_with fail
  generalize w.alloc (.cells #[.string b, .bool false] 161) = W0 at *
  refine (number_any w.heap.size (b, false) W0 k0).mono ?_
  rintro en w1 ⟨rfl, hR1, hO1⟩
  have hb1 := hO1.below hb0 (Nat.le_refl _)
  have HBC : Hid _ := byte_any w.heap.size (rNum (b, false)).2 w1 hR1
  clear k0 hb0 hO1 hR1
  go_wp2_with fail
  refine Calls.mono HBC.out ?_
  clear HBC
  rintro en w2 ⟨rfl, hR2, hO2⟩
  have hb2 := hO2.below hb1 (Nat.le_refl _)
  have hc1 : w2.cell? ⟨w.heap.size, 1, none⟩ = some (.bool (rByte (rNum (b, false)).2).2.2) := Blk.cell hR2 1
  clear hR2 hO2 hb1
  generalize (rByte (rNum (b, false)).2).2.2 = SH at *
  generalize (rByte (rNum (b, false)).2).1 = RT at *
  generalize (rNum (b, false)).1 = SZ at *
  cases SH with
  | true =>
    have HN : Hid (¬ mOk b) := fun h => by have := (HMO.out.1 h).1; cases this
    clear HMO
    go_wp2_with fail
    go_ret3
    exact ⟨.inr ⟨HN.out, by rw [HE.out.1, HE.out.2]; first | rfl | (simp; omega)⟩, hb2⟩
  | false =>
    by_cases h1 : SZ ≤ 2000
    · by_cases h2 : 1 ≤ RT
      · by_cases h3 : RT ≤ 64
        · have HN : Hid (mOk b) := HMO.out.2 ⟨rfl, h1, h2, h3⟩
          clear HMO
          go_wp2_with fail
          go_ret3
          exact ⟨.inl ⟨HN.out, by rw [HE.out.1, HE.out.2]; first | rfl | (simp; omega)⟩, hb2⟩
        · have HN : Hid (¬ mOk b) := fun h => h3 (HMO.out.1 h).2.2.2
          clear HMO
          go_wp2_with fail
          go_ret3
          exact ⟨.inr ⟨HN.out, by rw [HE.out.1, HE.out.2]; first | rfl | (simp; omega)⟩, hb2⟩
      · have HN : Hid (¬ mOk b) := fun h => h2 (HMO.out.1 h).2.2.1
        clear HMO
        go_wp2_with fail
        go_ret3
        exact ⟨.inr ⟨HN.out, by rw [HE.out.1, HE.out.2]; first | rfl | (simp; omega)⟩, hb2⟩
    · have HN : Hid (¬ mOk b) := fun h => h1 (HMO.out.1 h).2.1
      clear HMO
      go_wp2_with fail
      go_ret3
      exact ⟨.inr ⟨HN.out, by rw [HE.out.1, HE.out.2]; first | rfl | (simp; omega)⟩, hb2⟩
end Go.Proofs.YtkebgnpifmcmaabGreat
