import Derived.Test.YtkebgnpifmcmaaaXR
import Derived.Maps.AppendAt
namespace Go.Proofs.Ytkebgnpifmcmaaa
open Go.RowKit

set_option maxRecDepth 10000 in
set_option maxHeartbeats 400000 in
theorem appendNumber_keep (base : Nat) (v : Value) (l : List UInt8) (n : Nat) (w : World) (hown : w.ownsRow base 5 1 v l.length (BL l)) (hl : l.length ≤ 100000) (hn : n ≤ 60000) (hbase : base ≤ w.heap.size) :
    Calls Try.prog 59 #[v, .int .i64 (n : Int)] w fun e w' => ∃ v', e = .returned v' ∧ w'.ownsRow base 5 1 v' (l ++ num2 n).length (BL (l ++ num2 n)) ∧ Below base w w' ∧ ∀ b, b < w.heap.size → some b ≠ v.ownBlock → w'.heap[b]? = w.heap[b]? := by
  obtain ⟨i0, hi, hz0, hz1, hz2⟩ := info_parts Try.info5
  have hv : ∃ ao m c, v = .slice ao m c := by
    rcases hown.2 with ⟨rfl, _⟩ | ⟨g', cp, cur, rfl, _⟩
    · exact ⟨_, _, _, rfl⟩
    · exact ⟨_, _, _, rfl⟩
  obtain ⟨ao, m, c, rfl⟩ := hv
  go_enter Try.func59, Try.ntmps59
  go_wp2_with (at_builtin; refine wpList_append_own _ rfl (.tmp 5) (.tmp 11) 60 rfl base 5 i0 (.int .u8 0) 1 1 Try.underlying60 hi hz0 hz1 hz2 rfl (by decide) (.slice ao m c) l.length (BL l) rfl (hown.alloc _) ⟨w.heap.size, 0, none⟩ 2 2 [.int .u8 ((n : Int) / 256), .int .u8 ((n : Int) % 256)] rfl rfl (cell_arr_new w 5 #[.int .u8 ((n : Int) / 256), .int .u8 ((n : Int) % 256)]) (fun u hu => by simp at hu; rcases hu with rfl | rfl <;> rfl) (by unfold maxLen; omega) (by omega) (by simp; omega) ?_; intro v' w1 hown1 hgr1 _)
  go_ret
  rw [BL_num2 n hn, BL_append] at hown1
  exact ⟨v', rfl, by rw [List.length_append, num2_length]; exact hown1, ((Below.refl _ _).alloc hbase _).grown hgr1 (by simp; omega) (fun k hk => (hown.lt k hk).1), fun b hb hne => (hgr1.block b (by simp; omega) hne).trans (Below.heap_alloc w _ b hb)⟩


/-- The parts of an image. -/
def bodyB (s1 : ByteArray) (e1 : Nat) (s2 : ByteArray) (e2 rate : Nat) (f : Nat → Nat) : Nat → List UInt8
  | 0 => num2 s1.size ++ [UInt8.ofNat rate]
  | 1 => sideB s1 e1
  | 2 => sideB s2 e2
  | _ => keptB f rate (s1.size + 1)
/-- The first parts, each with its number and its length ahead. -/
def imgB (b : Nat → List UInt8) : Nat → List UInt8
  | 0 => []
  | k + 1 => imgB b k ++ [UInt8.ofNat k] ++ num2 (b k).length ++ b k
theorem bodyB_length (s1 : ByteArray) (e1 : Nat) (s2 : ByteArray) (e2 rate : Nat) (f : Nat → Nat) (hn1 : s1.size ≤ 2000) (hn2 : s2.size ≤ 2000) (k : Nat) : (bodyB s1 e1 s2 e2 rate f k).length ≤ 6000 ∧ 0 < (bodyB s1 e1 s2 e2 rate f k).length := by
  unfold bodyB
  split
  · simp [num2]
  · have := sideB_length s1 e1 hn1; omega
  · have := sideB_length s2 e2 hn2; omega
  · have h1 := keptL_length f rate (s1.size + 1)
    simp only [keptB, List.length_append, packed_length, nums_length]
    omega
theorem imgB_length (b : Nat → List UInt8) (hb : ∀ k, (b k).length ≤ 6000) (k : Nat) : (imgB b k).length ≤ 6003 * k := by
  induction k with
  | zero => simp [imgB]
  | succ k ih => have := hb k; simp only [imgB, List.length_append, num2_length, List.length_cons, List.length_nil]; omega

theorem bodyOf_any (w : World) (g e1 e2 rate k : Nat) (s1 s2 : ByteArray) (f : Nat → Nat) (h : IndexQ w g s1 e1 s2 e2 rate f) (hn : s1.size ≤ 2000) (hn2 : s2.size ≤ 2000) (hr : rate ≤ 64) (he1 : e1 ≤ 60000) (he2 : e2 ≤ 60000) (hf : ∀ r, r < s1.size + 1 → f r ≤ 2000) (hk : k < 4) :
    Calls Try.prog 58 #[.pointer (some ⟨g, 0, none⟩), .int .i64 (k : Int)] w fun en w' => ∃ v, en = .returned v ∧ OwnG w' w.heap.size v (bodyB s1 e1 s2 e2 rate f k) ∧ Below w.heap.size w w' := by
  rcases (show k = 0 ∨ k = 1 ∨ k = 2 ∨ k = 3 by omega) with rfl | rfl | rfl | rfl
  · exact bodyOf_0 w g e1 e2 rate s1 s2 f h hn hr
  · exact bodyOf_1 w g e1 e2 rate s1 s2 f h hn he1
  · exact bodyOf_2 w g e1 e2 rate s1 s2 f h hn2 he2
  · exact bodyOf_3 w g e1 e2 rate s1 s2 f h hn hf

set_option maxRecDepth 10000 in
set_option maxHeartbeats 1000000 in
theorem image_any (w : World) (g e1 e2 rate : Nat) (s1 s2 : ByteArray) (f : Nat → Nat) (h : IndexQ w g s1 e1 s2 e2 rate f) (hn : s1.size ≤ 2000) (hn2 : s2.size ≤ 2000) (hr : rate ≤ 64) (he1 : e1 ≤ 60000) (he2 : e2 ≤ 60000) (hf : ∀ r, r < s1.size + 1 → f r ≤ 2000) :
    Calls Try.prog 42 #[.pointer (some ⟨g, 0, none⟩)] w fun en w' => en = .returned (.string (bs (imgB (bodyB s1 e1 s2 e2 rate f) 4))) ∧ Below w.heap.size w w' := by
  obtain ⟨i0, hi, hz0, hz1, hz2⟩ := info_parts Try.info5
  have HBO : Hid (∀ w', Below w.heap.size w w' → ∀ k : Nat, k < 4 → Calls Try.prog 58 #[.pointer (some ⟨g, 0, none⟩), .int .i64 (k : Int)] w' fun en w2 => ∃ v, en = .returned v ∧ OwnG w2 w'.heap.size v (bodyB s1 e1 s2 e2 rate f k) ∧ Below w'.heap.size w' w2) := fun w' hb k hk => bodyOf_any w' g e1 e2 rate k s1 s2 f (h.below hb) hn hn2 hr he1 he2 hf hk
  have HL : Hid (∀ k, (bodyB s1 e1 s2 e2 rate f k).length ≤ 6000 ∧ 0 < (bodyB s1 e1 s2 e2 rate f k).length) := bodyB_length s1 e1 s2 e2 rate f hn hn2
  clear h hn hn2 hr he1 he2 hf
  generalize bodyB s1 e1 s2 e2 rate f = B at *
  go_enter Try.func42, Try.ntmps42
  go_wp2_with fail
  go_loopw [3, 6, 4, 5] (fun v i _ _ wr => ∃ k : Nat, k ≤ 4 ∧ i = .int .i64 (k : Int) ∧ wr.ownsRow w.heap.size 5 1 v (imgB B k).length (BL (imgB B k)) ∧ Below w.heap.size w wr) (fun _ i _ _ _ => 4 - (intOf i).toNat)
  case atStart => exact ⟨0, Nat.zero_le _, rfl, World.ownsRow_nil _ _ _ _, Below.refl _ _⟩
  case round =>
    obtain ⟨k, hk, rfl, hown, hb⟩ := hrel
    have hil := imgB_length B (fun k => (HL.out k).1) k
    by_cases hlt : k < 4
    · have hbl := HL.out k
      go_wp2_with fail
      refine (HBO.out wr hb k hlt).mono ?_
      rintro en w1 ⟨vb, rfl, hG1, hb1⟩
      have hown1 := own_below hown hb1
      have hb01 := hb.trans (hb1.mono hb.size)
      have hsz1 := hb01.size
      obtain ⟨gb, cb, rfl, hg2, hg3, hg4, hg5, hg6⟩ := id hG1
      have hv : ∃ ao m c, u3 = .slice ao m c := by
        rcases hown.2 with ⟨rfl, _⟩ | ⟨g', cp, cur, rfl, _⟩
        · exact ⟨_, _, _, rfl⟩
        · exact ⟨_, _, _, rfl⟩
      obtain ⟨ao, m, c, rfl⟩ := hv
      have hkb : ((UInt8.ofNat k).toNat : Int) = (k : Int) := by rw [ofNat_toNat (by omega)]
      have HKB : Hid ([Value.int .u8 (k : Int)] = BL [UInt8.ofNat k]) := by
        show _ = [Value.int .u8 ((UInt8.ofNat k).toNat : Int)]
        rw [hkb]
      have hownr := hown
      clear hkb hown hb
      have hne1 : some gb ≠ (Value.slice ao m c).ownBlock := fun e => by
        have := (hownr.lt gb e.symm).2
        omega
      go_wp2_with (at_builtin; refine wpList_append_own_at _ rfl (.tmp 12) (.tmp 15) 60 rfl w.heap.size 5 i0 (.int .u8 0) 1 1 Try.underlying60 hi hz0 hz1 hz2 rfl (by decide) (.slice ao m c) (imgB B k).length (BL (imgB B k)) rfl (hown1.alloc _) ⟨w1.heap.size, 0, none⟩ 1 1 [.int .u8 (k : Int)] rfl rfl (cell_one_new _ _ _) (fun u hu => by simp at hu; subst hu; rfl) (by unfold maxLen; omega) (by omega) (by simp; omega) ?_; intro v2 w2 hown2 hgr2 _ hat2)
      rw [HKB.out, BL_append] at hown2
      have hown2' : w2.ownsRow w.heap.size 5 1 v2 (imgB B k ++ [UInt8.ofNat k]).length (BL (imgB B k ++ [UInt8.ofNat k])) := by rw [List.length_append]; exact hown2
      have hb2 : Below w.heap.size w w2 := (hb01.alloc hsz1 _).grown hgr2 (by simp; omega) (fun k hk => (hown1.lt k hk).1)
      have hgb2 : w2.heap[gb]? = w1.heap[gb]? := (hgr2.block gb (by simp; omega) hne1).trans (Below.heap_alloc w1 _ gb hg3)
      have hsz2 := hb2.size
      have hgl2 : gb < w2.heap.size := by have := hgr2.size; simp at this; omega
      have hne2 : some gb ≠ v2.ownBlock := fun e => by
        rcases hat2 with h | h
        · rw [h] at e; exact hne1 e
        · rw [h] at e; simp at e; omega
      have hl2 : (imgB B k ++ [UInt8.ofNat k]).length ≤ 100000 := by rw [List.length_append]; simp; omega
      obtain ⟨ao2, m2, c2, rfl⟩ : ∃ ao m c, v2 = .slice ao m c := by
        rcases hown2.2 with ⟨rfl, _⟩ | ⟨g', cp, cur, rfl, _⟩
        · exact ⟨_, _, _, rfl⟩
        · exact ⟨_, _, _, rfl⟩
      clear hown2 hgr2 hat2 hne1 hown1 hb01 HKB
      go_wp2_with fail
      refine (appendNumber_keep w.heap.size (.slice ao2 m2 c2) (imgB B k ++ [UInt8.ofNat k]) (B k).length w2 hown2' hl2 (by omega) hsz2).mono ?_
      rintro en w3 ⟨v3, rfl, hown3, hb3, hk3⟩
      have hgb3 : w3.heap[gb]? = w1.heap[gb]? := (hk3 gb hgl2 hne2).trans hgb2
      have hb03 := hb2.trans hb3
      have hsz3 := hb03.size
      have hcells : ∀ j u, (BL (B k))[j]? = some u → w3.cell? ((⟨gb, 0, none⟩ : Addr).add j) = some u := fun j u hu => by
        have h2 : (⟨gb, 0, none⟩ : Addr).add j = ⟨gb, j, none⟩ := by
          unfold Addr.add
          by_cases e : j = 0
          · simp [e]
          · simp [e]
        rw [h2]
        have := hg5 j u hu
        simp only [World.cell?, hgb3] at this ⊢
        exact this
      obtain ⟨ao3, m3, c3, rfl⟩ : ∃ ao m c, v3 = .slice ao m c := by
        rcases hown3.2 with ⟨rfl, _⟩ | ⟨g', cp, cur, rfl, _⟩
        · exact ⟨_, _, _, rfl⟩
        · exact ⟨_, _, _, rfl⟩
      have hl3 : (imgB B k ++ [UInt8.ofNat k] ++ num2 (B k).length).length ≤ 100000 := by rw [List.length_append, List.length_append, num2_length]; simp; omega
      clear hown2' hb2 hk3 hb3 hg5 hg6 hgb2 hgb3 hG1
      have HIM : Hid (imgB B (k + 1) = imgB B k ++ [UInt8.ofNat k] ++ num2 (B k).length ++ B k) := rfl
      have hone : ∀ u ∈ BL (B k), u.oneCell' = true := fun u hu => by
        simp only [BL, List.mem_map] at hu
        obtain ⟨x, _, rfl⟩ := hu
        rfl
      go_wp2_with (at_builtin; refine wpList_append_own _ rfl (.tmp 21) (.tmp 22) 60 rfl w.heap.size 5 i0 (.int .u8 0) 1 1 Try.underlying60 hi hz0 hz1 hz2 rfl (by decide) (.slice ao3 m3 c3) (imgB B k ++ [UInt8.ofNat k] ++ num2 (B k).length).length (BL (imgB B k ++ [UInt8.ofNat k] ++ num2 (B k).length)) rfl hown3 ⟨gb, 0, none⟩ (B k).length cb (BL (B k)) rfl (by rw [BL_length, Nat.mul_one]) hcells hone (by unfold maxLen; omega) (by omega) hsz3 ?_; intro v4 w4 hown4 hgr4 _)
      have hb4 : Below w.heap.size w w4 := hb03.grown hgr4 hsz3 (fun k hk => (hown3.lt k hk).1)
      rw [BL_append, ← HIM.out] at hown4
      go_roundw
      case rel => exact ⟨k + 1, by omega, by go_num, by rw [HIM.out, List.length_append, ← HIM.out]; exact hown4, hb4⟩
      case measure => simp [intOf]; omega
    · have hk4 : k = 4 := by omega
      subst hk4
      have hcv := conv_own hown
      go_wp2
      go_ret
      exact ⟨rfl, hb⟩
end Go.Proofs.Ytkebgnpifmcmaaa
