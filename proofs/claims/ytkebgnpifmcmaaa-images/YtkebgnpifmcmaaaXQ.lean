import Derived.Test.YtkebgnpifmcmaaaXO
namespace Go.Proofs.Ytkebgnpifmcmaaa
open Go.RowKit

/-- '[]byte(s)'. -/
theorem conv_OwnG (w : World) (s : ByteArray) : ∃ cap W', (convert 9 60 (.string s)).run Try.prog w = .ok (.slice (some ⟨w.heap.size, 0, none⟩) s.size cap) W' ∧ OwnG W' w.heap.size (.slice (some ⟨w.heap.size, 0, none⟩) s.size cap) (tx s) ∧ Below w.heap.size w W' := by
  refine ⟨grownCap w s.size 0 5, _, run_bytes_of_string w 9 60 5 s Try.underlying9 Try.underlying60 Try.underlying5, ?_, ((Below.refl _ _).drew).alloc (Nat.le_refl _) _⟩
  have hge : s.size ≤ grownCap w s.size 0 5 := grownCap_ge w s.size 0 5
  generalize grownCap w s.size 0 5 = cap at *
  have hh : (w.drew.alloc (.cells (bytesRow s cap) 5 ((bytesRow s cap).size, (bytesRow s cap).size + 1))).heap[w.heap.size]? = some (.cells (bytesRow s cap) 5 ((bytesRow s cap).size, (bytesRow s cap).size + 1)) := heap_alloc_new w.drew _
  have hsz : (bytesRow s cap).size = cap := by
    rw [bytesRow, Array.size_append, Array.size_map, Array.size_replicate]
    show s.size + (cap - s.size) = cap
    omega
  refine ⟨w.heap.size, cap, by rw [tx_length], Nat.le_refl _, by simp, by rw [tx_length]; exact hge, fun j u hu => ?_, fun j hj => ?_⟩
  · have hj : j < s.size := by have := (List.getElem?_eq_some_iff.1 hu).1; rwa [BL_length, tx_length] at this
    rw [cell_of_row _ _ _ _ _ _ hh, bytesRow_at s cap j hj, ← hu]
    have hj2 : j < (tx s).length := by rw [tx_length]; exact hj
    simp only [BL, List.getElem?_map, List.getElem?_eq_getElem hj2, Option.map_some]
    rfl
  · refine ⟨?_, ?_⟩
    · rw [cell_of_row _ _ _ _ _ _ hh, Array.getElem?_eq_getElem (by omega)]; rfl
    · simp only [World.frozen?, hh]
      simp; omega

/-- Numbers, as bytes. -/
def nums (l : List Nat) : List UInt8 := l.flatMap num2
theorem nums_snoc (l : List Nat) (x : Nat) : nums (l ++ [x]) = nums l ++ num2 x := by simp [nums]
theorem nums_length (l : List Nat) : (nums l).length = 2 * l.length := by
  induction l with
  | nil => rfl
  | cons x l ih => simp only [nums, List.flatMap_cons, List.length_append, num2_length, List.length_cons] at ih ⊢; omega
def keptB (f : Nat → Nat) (rate n : Nat) : List UInt8 := packed (isK f rate) n ++ nums (keptL f rate n)

set_option maxRecDepth 10000 in
set_option maxHeartbeats 1000000 in
theorem bodyOfKept_any (w : World) (g off n base : Nat) (F : Nat → Bool) (L : List Nat) (gw ga : Nat) (pl : Value) (hn : n ≤ 2001) (hLn : L.length ≤ n) (hL : ∀ j, j < L.length → L.getD j 0 ≤ 60000)
    (h0 : w.cell? ⟨g, off, none⟩ = some (.int .i64 (n : Int))) (h1 : w.cell? ⟨g, off + 1, none⟩ = some (.slice (some ⟨gw, 0, none⟩) (n / 64 + 1) (n / 64 + 1))) (h2 : w.cell? ⟨g, off + 2, none⟩ = some (.slice (some ⟨ga, 0, none⟩) (n / 64 + 1) (n / 64 + 1))) (h3 : w.cell? ⟨g, off + 3, none⟩ = some pl)
    (hbr : BR w (.int .i64 (n : Int)) (.slice (some ⟨gw, 0, none⟩) (n / 64 + 1) (n / 64 + 1)) (.slice (some ⟨ga, 0, none⟩) (n / 64 + 1) (n / 64 + 1)) n F) (hown : w.ownsRow base 3 1 pl L.length (NL L)) :
    Calls Try.prog 79 #[.pointer (some ⟨g, off, none⟩)] w fun en w' => ∃ v, en = .returned v ∧ OwnG w' w.heap.size v (packed F n ++ nums L) ∧ Below w.heap.size w w' := by
  go_enter Try.func79, Try.ntmps79
  go_wp2_with fail
  refine (hbr.pack hn).mono ?_
  rintro en w1 ⟨rfl, hb1⟩
  obtain ⟨cap, w2, hcv, hG2, hb2⟩ := conv_OwnG w1 (bs (packed F n))
  rw [tx_bs] at hG2
  have h31 : w2.cell? ⟨g, off + 3, none⟩ = some pl := cell_below (cell_below h3 hb1) hb2
  have hb12 := hb1.trans (hb2.mono hb1.size)
  have hown2 := own_below3 (own_below3 hown hb1) hb2
  have hpv : ∃ ao cp, pl = .slice ao L.length cp := by
    rcases hown.2 with ⟨rfl, h0⟩ | ⟨g', cp, cur, rfl, _⟩
    · exact ⟨none, 0, by rw [h0]⟩
    · exact ⟨_, _, rfl⟩
  obtain ⟨ao, cp, rfl⟩ := hpv
  have HPL : Hid ((packed F n).length = (n + 7) / 8) := packed_length F n
  have hG20 : OwnG w2 w.heap.size (.slice (some ⟨w1.heap.size, 0, none⟩) (bs (packed F n)).size cap) (packed F n) := by
    obtain ⟨g', c', q1, q2, q3⟩ := hG2
    exact ⟨g', c', q1, Nat.le_trans hb1.size q2, q3⟩
  generalize bs (packed F n) = PS at *
  generalize hPK : packed F n = PK at *
  have HPK : Hid (packed F n = PK) := hPK
  clear hPK
  clear h0 h1 h2 h3 hbr hG2 hb1 hb2
  go_wp2_with fail
  clear hcv h31
  go_loopw [3, 17, 5] (fun v i _ wr => ∃ k : Nat, k ≤ L.length ∧ i = .int .i64 (k : Int) ∧ OwnG wr w.heap.size v (PK ++ nums (L.take k)) ∧ Below w.heap.size w wr) (fun _ i _ _ => L.length - (intOf i).toNat)
  case atStart => exact ⟨0, Nat.zero_le _, rfl, by simpa [nums] using hG20, hb12⟩
  case round =>
    clear hG20 hb12 hown2
    obtain ⟨k, hk, rfl, hG, hb⟩ := hrel
    by_cases hlt : k < L.length
    · obtain ⟨gr, cp2, hv2, hcell⟩ := own_cellsN (own_below3 hown hb) (by omega)
      obtain ⟨rfl, rfl⟩ : ao = some ⟨gr, 0, none⟩ ∧ cp = cp2 := by simpa using hv2
      have hc1 := hcell k (.int .i64 ((L.getD k 0 : Nat) : Int)) (by omega) (by simp [NL, List.getElem?_eq_getElem hlt])
      have hLk := hL k hlt
      have HTK : Hid (L.take (k + 1) = L.take k ++ [L.getD k 0]) := by
        show L.take (k + 1) = _
        rw [List.take_add_one, List.getElem?_eq_getElem hlt, List.getD_eq_getElem?_getD, List.getElem?_eq_getElem hlt]; rfl
      have hlen : (PK ++ nums (L.take k)).length ≤ 100000 := by
        rw [List.length_append, nums_length, List.length_take, HPL.out]; omega
      have hgv : ∃ gg mm cc, u3 = .slice (some ⟨gg, 0, none⟩) mm cc := by
        obtain ⟨gg, cc, e1, _⟩ := id hG
        exact ⟨gg, _, cc, e1⟩
      obtain ⟨gg, mm, cc, rfl⟩ := hgv
      generalize L.getD k 0 = X at *
      clear hcell hv2
      go_wp2_with fail
      refine (appendNumber_G w.heap.size _ (PK ++ nums (L.take k)) X wr hG hlen hLk hb.size).mono ?_
      rintro en w3 ⟨v3, rfl, hG3, hb3⟩
      have HN : Hid (PK ++ nums (L.take (k + 1)) = PK ++ nums (L.take k) ++ num2 X) := by
        show PK ++ nums (L.take (k + 1)) = _
        rw [HTK.out, nums_snoc, List.append_assoc]
      go_wp2
      go_roundw
      case rel => exact ⟨k + 1, by omega, by go_num, by rw [HN.out]; exact hG3, hb.trans hb3⟩
      case measure => simp [intOf]; omega
    · have hkl : k = L.length := by omega
      subst hkl
      go_wp2
      go_ret
      exact ⟨_, rfl, by rw [List.take_length] at hG; rw [HPK.out]; exact hG, hb⟩
end Go.Proofs.Ytkebgnpifmcmaaa
