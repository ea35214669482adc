import Derived.Test.YtkebgnpifmcmaaaXM
import Derived.Lib.AppendStr
namespace Go.Proofs.Ytkebgnpifmcmaaa
open Go.RowKit

/-- A number, in two bytes. -/
def num2 (n : Nat) : List UInt8 := [UInt8.ofNat (n / 256), UInt8.ofNat n]

theorem num2_length (n : Nat) : (num2 n).length = 2 := rfl
theorem BL_append (l m : List UInt8) : BL l ++ BL m = BL (l ++ m) := by simp [BL]
theorem BL_num2 (n : Nat) (hn : n ≤ 60000) : [.int .u8 ((n : Int) / 256), .int .u8 ((n : Int) % 256)] = BL (num2 n) := by
  have h1 : (((UInt8.ofNat (n / 256)).toNat : Nat) : Int) = (n : Int) / 256 := by rw [ofNat_toNat (by omega)]; omega
  have h2 : (((UInt8.ofNat n).toNat : Nat) : Int) = (n : Int) % 256 := by simp [UInt8.toNat_ofNat']
  show _ = [Value.int .u8 ((UInt8.ofNat (n / 256)).toNat : Int), Value.int .u8 ((UInt8.ofNat n).toNat : Int)]
  rw [h1, h2]

set_option maxRecDepth 10000 in
set_option maxHeartbeats 400000 in
theorem appendNumber_any (base : Nat) (v : Value) (l : List UInt8) (n : Nat) (w : World) (hown : w.ownsRow base 5 1 v l.length (BL l)) (hl : l.length ≤ 100000) (hn : n ≤ 60000) (hbase : base ≤ w.heap.size) :
    Calls Try.prog 59 #[v, .int .i64 (n : Int)] w fun e w' => ∃ v', e = .returned v' ∧ w'.ownsRow base 5 1 v' (l ++ num2 n).length (BL (l ++ num2 n)) ∧ Below base w w' := by
  obtain ⟨i0, hi, hz0, hz1, hz2⟩ := info_parts Try.info5
  have hv : ∃ ao m c, v = .slice ao m c := by
    rcases hown.2 with ⟨rfl, _⟩ | ⟨g', cp, cur, rfl, _⟩
    · exact ⟨_, _, _, rfl⟩
    · exact ⟨_, _, _, rfl⟩
  obtain ⟨ao, m, c, rfl⟩ := hv
  go_enter Try.func59, Try.ntmps59
  go_wp2_with (at_builtin; refine wpList_append_own _ rfl (.tmp 5) (.tmp 11) 60 rfl base 5 i0 (.int .u8 0) 1 1 Try.underlying60 hi hz0 hz1 hz2 rfl (by decide) (.slice ao m c) l.length (BL l) rfl (hown.alloc _) ⟨w.heap.size, 0, none⟩ 2 2 [.int .u8 ((n : Int) / 256), .int .u8 ((n : Int) % 256)] rfl rfl (cell_arr_new w 5 #[.int .u8 ((n : Int) / 256), .int .u8 ((n : Int) % 256)]) (fun u hu => by simp at hu; rcases hu with rfl | rfl <;> rfl) (by unfold maxLen; omega) (by omega) (by simp; omega) ?_; intro v' w1 hown1 hgr1 _)
  go_ret
  rw [BL_num2 n hn, BL_append] at hown1
  exact ⟨v', rfl, by rw [List.length_append, num2_length]; exact hown1, ((Below.refl _ _).alloc hbase _).grown hgr1 (by simp; omega) (fun k hk => (hown.lt k hk).1)⟩


theorem as_mf (a : Addr) (w : World) : (Instr.typeAssert (.iface 135 (.pointer (some a))) 68 133 true).run Try.prog w = .ok (.tuple #[.pointer none, .bool false]) w := by kernel_rfl
theorem as_mm (a : Addr) (w : World) : (Instr.typeAssert (.iface 135 (.pointer (some a))) 68 135 true).run Try.prog w = .ok (.tuple #[.pointer (some a), .bool true]) w := by kernel_rfl
theorem as_ff (a : Addr) (w : World) : (Instr.typeAssert (.iface 133 (.pointer (some a))) 68 133 true).run Try.prog w = .ok (.tuple #[.pointer (some a), .bool true]) w := by kernel_rfl

set_option maxRecDepth 10000 in
set_option maxHeartbeats 1000000 in
theorem bodyOfSide_many (w : World) (g off e gc : Nat) (s : ByteArray) (h1 : w.cell? ⟨g, off, none⟩ = some (.iface 135 (.pointer (some ⟨gc, 0, none⟩)))) (h2 : w.cell? ⟨g, off + 1, none⟩ = some (.int .i64 (e : Int))) (hM : ManyC w gc s) (hn : s.size ≤ 2000) (he : e ≤ 60000) :
    Calls Try.prog 78 #[.pointer (some ⟨g, off, none⟩)] w fun en w' => ∃ v, en = .returned v ∧ w'.ownsRow w.heap.size 5 1 v (num2 e ++ [1] ++ tx s).length (BL (num2 e ++ [1] ++ tx s)) ∧ Below w.heap.size w w' := by
  obtain ⟨i0, hi, hz0, hz1, hz2⟩ := info_parts Try.info5
  go_enter Try.func78, Try.ntmps78
  go_wp2_with fail
  refine (appendNumber_any w.heap.size (.slice none 0 0) [] e w (World.ownsRow_nil _ _ _ _) (by simp) he (Nat.le_refl _)).mono ?_
  rintro en w1 ⟨v1, rfl, hown1, hb1⟩
  rw [List.nil_append] at hown1
  have hc1 : w1.cell? ⟨g, off, none⟩ = some (.iface 135 (.pointer (some ⟨gc, 0, none⟩))) := cell_below h1 hb1
  have ha1 := as_mf
  have ha2 := as_mm
  have hsz1 := hb1.size
  have hv1 : ∃ g1 cap1, v1 = .slice (some ⟨g1, 0, none⟩) 2 cap1 := own_form hown1 (by decide)
  obtain ⟨g1, cap1, rfl⟩ := hv1
  go_wp2_with (at_builtin; refine wpList_append_own _ rfl (.tmp 46) (.tmp 47) 60 rfl w.heap.size 5 i0 (.int .u8 0) 1 1 Try.underlying60 hi hz0 hz1 hz2 rfl (by decide) (.slice (some ⟨g1, 0, none⟩) 2 cap1) 2 (BL (num2 e)) rfl (hown1.alloc _) ⟨w1.heap.size, 0, none⟩ 1 1 [.int .u8 1] rfl rfl (cell_one_new _ _ _) (fun u hu => by simp at hu; subst hu; rfl) (by unfold maxLen; omega) (by omega) (by simp; omega) ?_; intro v2 w2 hown2 hgr2 _)
  have hb2 : Below w.heap.size w w2 := (hb1.alloc hsz1 _).grown hgr2 (by simp; omega) (fun k hk => (hown1.lt k hk).1)
  have hown2' : w2.ownsRow w.heap.size 5 1 v2 3 (BL (num2 e ++ [1])) := by rw [← BL_append]; exact hown2
  clear hown2 hgr2 hown1 hb1
  go_wp2_with fail
  refine (many_bytes w2 gc s (hM.below hb2)).mono ?_
  rintro en w3 ⟨rfl, rfl⟩
  have hsz2 := hb2.size
  go_wp2_with (at_builtin; refine Lib.wpList_append_own_string _ rfl (.tmp 49) (.tmp 51) 60 9 rfl w.heap.size 5 i0 Try.underlying60 Try.underlying9 hi hz0 hz1 hz2 v2 3 (BL (num2 e ++ [1])) rfl hown2' s rfl (by unfold maxLen; omega) (by omega) hsz2 ?_; intro v4 w4 hown4 hgr4 _)
  have hb4 : Below w.heap.size w w4 := hb2.grown hgr4 hsz2 (fun k hk => (hown2'.lt k hk).1)
  rw [show Lib.strCells s = BL (tx s) from rfl, BL_append] at hown4
  go_wp2
  go_ret
  exact ⟨v4, rfl, by rw [List.length_append, List.length_append, num2_length, tx_length]; exact hown4, hb4⟩

/-- The rows of the letters, packed, one behind the other. -/
def packs (s lt : ByteArray) : Nat → List UInt8
  | 0 => []
  | k + 1 => packs s lt k ++ packed (isLet s lt k) s.size
theorem packs_length (s lt : ByteArray) (k : Nat) : (packs s lt k).length = k * ((s.size + 7) / 8) := by
  induction k with
  | zero => simp [packs]
  | succ k ih => rw [packs, List.length_append, ih, packed_length, Nat.succ_mul]

set_option maxRecDepth 10000 in
set_option maxHeartbeats 1000000 in
theorem bodyOfSide_few (w : World) (g off e gc : Nat) (s lt : ByteArray) (h1 : w.cell? ⟨g, off, none⟩ = some (.iface 133 (.pointer (some ⟨gc, 0, none⟩)))) (h2 : w.cell? ⟨g, off + 1, none⟩ = some (.int .i64 (e : Int))) (hF : FewC w gc s lt) (hn : s.size ≤ 2000) (hlt : lt.size ≤ 8) (he : e ≤ 60000) :
    Calls Try.prog 78 #[.pointer (some ⟨g, off, none⟩)] w fun en w' => ∃ v, en = .returned v ∧ w'.ownsRow w.heap.size 5 1 v (num2 e ++ [0, UInt8.ofNat lt.size] ++ tx lt ++ packs s lt lt.size).length (BL (num2 e ++ [0, UInt8.ofNat lt.size] ++ tx lt ++ packs s lt lt.size)) ∧ Below w.heap.size w w' := by
  obtain ⟨i0, hi, hz0, hz1, hz2⟩ := info_parts Try.info5
  go_enter Try.func78, Try.ntmps78
  go_wp2_with fail
  refine (appendNumber_any w.heap.size (.slice none 0 0) [] e w (World.ownsRow_nil _ _ _ _) (by simp) he (Nat.le_refl _)).mono ?_
  rintro en w1 ⟨v1, rfl, hown1, hb1⟩
  rw [List.nil_append] at hown1
  have hc1 : w1.cell? ⟨g, off, none⟩ = some (.iface 133 (.pointer (some ⟨gc, 0, none⟩))) := cell_below h1 hb1
  have ha1 := as_ff
  have hsz1 := hb1.size
  have hv1 : ∃ g1 cap1, v1 = .slice (some ⟨g1, 0, none⟩) 2 cap1 := own_form hown1 (by decide)
  obtain ⟨g1, cap1, rfl⟩ := hv1
  go_wp2_with fail
  refine (few_letters w1 gc s lt (hF.below hb1)).mono ?_
  rintro en w2 ⟨rfl, rfl⟩
  have hlb : ((UInt8.ofNat lt.size).toNat : Int) = (lt.size : Int) := by rw [ofNat_toNat (by omega)]
  have HB2 : Hid ([Value.int .u8 0, .int .u8 (lt.size : Int)] = BL [0, UInt8.ofNat lt.size]) := by
    show _ = [Value.int .u8 (((0 : UInt8).toNat : Nat) : Int), Value.int .u8 ((UInt8.ofNat lt.size).toNat : Int)]
    rw [hlb]; rfl
  clear hlb
  go_wp2_with (first | (at_builtin; refine wpList_append_own _ rfl (.tmp 22) (.tmp 26) 60 rfl w.heap.size 5 i0 (.int .u8 0) 1 1 Try.underlying60 hi hz0 hz1 hz2 rfl (by decide) (.slice (some ⟨g1, 0, none⟩) 2 cap1) 2 (BL (num2 e)) rfl (hown1.alloc _) ⟨w2.heap.size, 0, none⟩ 2 2 [.int .u8 0, .int .u8 (lt.size : Int)] rfl rfl (cell_arr_new w2 5 #[.int .u8 0, .int .u8 (lt.size : Int)]) (fun u hu => by simp at hu; rcases hu with rfl | rfl <;> rfl) (by unfold maxLen; omega) (by omega) (by simp; omega) ?_; intro v3 w3 hown3 hgr3 _; have hb3 : Below w.heap.size w w3 := (hb1.alloc hsz1 _).grown hgr3 (by simp; omega) (fun k hk => (hown1.lt k hk).1); have hsz3 := hb3.size; rw [HB2.out, BL_append] at hown3) | (at_builtin; refine Lib.wpList_append_own_string _ rfl (.tmp 28) (.tmp 29) 60 9 rfl w.heap.size 5 i0 Try.underlying60 Try.underlying9 hi hz0 hz1 hz2 v3 4 (BL (num2 e ++ [0, UInt8.ofNat lt.size])) rfl hown3 lt rfl (by unfold maxLen; omega) (by omega) hsz3 ?_; intro v4 w4 hown4 hgr4 _))
  have hb4 : Below w.heap.size w w4 := hb3.grown hgr4 hsz3 (fun k hk => (hown3.lt k hk).1)
  rw [show Lib.strCells lt = BL (tx lt) from rfl, BL_append] at hown4
  have HPL : Hid (∀ k, (num2 e ++ [0, UInt8.ofNat lt.size] ++ tx lt ++ packs s lt k).length = 4 + lt.size + k * ((s.size + 7) / 8)) := fun k => by
    rw [List.length_append, List.length_append, List.length_append, packs_length, num2_length, tx_length]; rfl
  have hown4' : w4.ownsRow w.heap.size 5 1 v4 (4 + lt.size + 0 * ((s.size + 7) / 8)) (BL (num2 e ++ [0, UInt8.ofNat lt.size] ++ tx lt ++ packs s lt 0)) := by
    rw [packs, List.append_nil, Nat.zero_mul, Nat.add_zero]; exact hown4
  have hcs : (s.size + 7) / 8 ≤ 260 := by omega
  generalize hPR : num2 e ++ [0, UInt8.ofNat lt.size] ++ tx lt = PR at *
  have HPR : Hid (num2 e ++ [0, UInt8.ofNat lt.size] ++ tx lt = PR) := hPR
  clear hPR
  generalize hM : (s.size + 7) / 8 = M at *
  have HM : Hid ((s.size + 7) / 8 = M) := hM
  clear hM hown4 hgr4 hown3 hgr3 hb3 hown1 hb1 HB2 hc1 ha1 hsz3
  go_loopw [3, 33, 6] (fun v i _ wr => ∃ k : Nat, k ≤ lt.size ∧ i = .int .i64 (k : Int) ∧ wr.ownsRow w.heap.size 5 1 v (4 + lt.size + k * M) (BL (PR ++ packs s lt k)) ∧ Below w.heap.size w wr) (fun _ i _ _ => lt.size - (intOf i).toNat)
  case atStart => exact ⟨0, Nat.zero_le _, rfl, hown4', hb4⟩
  case round =>
    clear hown4' hb4
    obtain ⟨k, hk, rfl, hown, hb⟩ := hrel
    by_cases hlt2 : k < lt.size
    · have hkM : k * M ≤ 8 * 260 := Nat.mul_le_mul (by omega) hcs
      go_wp2_with fail
      refine (few_rowOf wr gc k s lt (hF.below hb) hlt2 (by omega)).mono ?_
      rintro en w5 ⟨a5, b5, c5, rfl, hbr5, hb5⟩
      go_wp2_with fail
      refine (hbr5.pack (by omega)).mono ?_
      rintro en w6 ⟨rfl, hb6⟩
      have hbb5 := hb.trans (hb5.mono hb.size)
      have hbb6 := hbb5.trans (hb6.mono hbb5.size)
      have hown6 := own_below (own_below hown hb5) hb6
      have hsz6 := hbb6.size
      have hps : (bs (packed (isLet s lt k) s.size)).size = M := by rw [bs_size, packed_length]; exact HM.out
      have HPK : Hid (packs s lt (k + 1) = packs s lt k ++ packed (isLet s lt k) s.size) := rfl
      have HST : Hid (Lib.strCells (bs (packed (isLet s lt k) s.size)) = BL (packed (isLet s lt k) s.size)) := by
        show BL (tx (bs (packed (isLet s lt k) s.size))) = _
        rw [tx_bs]
      generalize bs (packed (isLet s lt k) s.size) = PS at *
      clear hown hb hb5 hb6 hbr5 hbb5
      go_wp2_with (at_builtin; refine Lib.wpList_append_own_string _ rfl (.tmp 36) (.tmp 40) 60 9 rfl w.heap.size 5 i0 Try.underlying60 Try.underlying9 hi hz0 hz1 hz2 u3 (4 + lt.size + k * M) (BL (PR ++ packs s lt k)) rfl hown6 PS rfl (by unfold maxLen; omega) (by omega) hsz6 ?_; intro v7 w7 hown7 hgr7 _)
      have hb7 : Below w.heap.size w w7 := hbb6.grown hgr7 hsz6 (fun k hk => (hown6.lt k hk).1)
      rw [HST.out, BL_append, List.append_assoc, ← HPK.out, hps] at hown7
      go_roundw
      case rel => exact ⟨k + 1, by omega, by go_num, by rw [Nat.succ_mul, ← Nat.add_assoc]; exact hown7, hb7⟩
      case measure => simp [intOf]; omega
    · have hkl : k = lt.size := by omega
      subst hkl
      go_wp2
      go_ret
      exact ⟨_, rfl, by rw [HPR.out, HPL.out]; exact hown, hb⟩

/-- A side, as bytes. -/
def sideB (s : ByteArray) (e : Nat) : List UInt8 :=
  if (letters s).length ≤ 8 then num2 e ++ [0, UInt8.ofNat (bs (letters s)).size] ++ tx (bs (letters s)) ++ packs s (bs (letters s)) (bs (letters s)).size else num2 e ++ [1] ++ tx s
theorem sideB_length (s : ByteArray) (e : Nat) (hn : s.size ≤ 2000) : (sideB s e).length ≤ 3000 ∧ 0 < (sideB s e).length := by
  unfold sideB
  by_cases h : (letters s).length ≤ 8
  · rw [if_pos h]
    have hM : (letters s).length * ((s.size + 7) / 8) ≤ 8 * 260 := Nat.mul_le_mul h (by omega)
    simp only [List.length_append, packs_length, num2_length, tx_bs, bs_size, List.length_cons, List.length_nil]
    omega
  · rw [if_neg h]
    simp only [List.length_append, num2_length, tx_length, List.length_cons, List.length_nil]
    omega
theorem bodyOfSide_any (w : World) (g off e : Nat) (s : ByteArray) (h : SideP w g off s e) (hn : s.size ≤ 2000) (he : e ≤ 60000) :
    Calls Try.prog 78 #[.pointer (some ⟨g, off, none⟩)] w fun en w' => ∃ v, en = .returned v ∧ w'.ownsRow w.heap.size 5 1 v (sideB s e).length (BL (sideB s e)) ∧ Below w.heap.size w w' := by
  obtain ⟨v, h1, h2, _, h4⟩ := h
  unfold sideB
  rcases h4 with ⟨h8, gc, rfl, hF⟩ | ⟨h8, gc, rfl, hM⟩
  · rw [if_pos h8]
    exact bodyOfSide_few w g off e gc s (bs (letters s)) h1 h2 hF hn (by rw [bs_size]; exact h8) he
  · rw [if_neg (Nat.not_le.2 h8)]
    exact bodyOfSide_many w g off e gc s h1 h2 hM hn he
end Go.Proofs.Ytkebgnpifmcmaaa
