import Derived.Test.YtkebgnpifmcmaaaXF
namespace Go.Proofs.Ytkebgnpifmcmaaa
open Go.RowKit

set_option maxRecDepth 10000 in
set_option maxHeartbeats 2000000 in
theorem few_count (w : World) (g c row : Nat) (s : ByteArray) (h : FewC w g s (bs (letters s))) (hn : s.size ≤ 2000) (hr : row ≤ s.size) (hc : c < 256) : Calls Try.prog 128 #[.pointer (some ⟨g, 0, none⟩), .int .u8 (c : Int), .int .i64 (row : Int)] w fun e w' => e = .returned (.tuple #[.int .i64 ((cnt (byN s) c row : Nat) : Int), .int .i64 ((less (byN s) c row : Nat) : Int)]) ∧ Below w.heap.size w w' := by
  obtain ⟨base, v, xs, h1, h2, h3⟩ := h
  have hlen := letters_le s
  have hsz := bs_size (letters s)
  have HGe : Hid (∀ k (h : k < (bs (letters s)).size), (bs (letters s))[k] = (letters s).getD k 0) := bs_letters s
  obtain ⟨lt, hlt⟩ : ∃ lt, lt = bs (letters s) := ⟨_, rfl⟩
  rw [← hlt] at h1 h2 h3 hsz HGe
  have hl1 : lt.size ≤ 256 := by omega
  have HSZ : Hid (lt.size = (letters s).length) := hsz
  clear hsz hlt hlen
  have hvs : ∃ ao cap, v = .slice ao lt.size cap := by
    rcases h2.2 with ⟨rfl, h0⟩ | ⟨gg, cap, cur, rfl, _⟩
    · exact ⟨none, 0, by rw [h0]⟩
    · exact ⟨_, _, rfl⟩
  obtain ⟨ao, cap, rfl⟩ := hvs
  have hc2 : w.cell? ⟨g, 2, none⟩ = some (.slice ao lt.size cap) := h1.cell 2
  go_enter Try.func128, Try.ntmps128
  go_wp2_with fail
  clear hc2
  go_loopw [16, 7, 8, 9, 10] (fun iv lv _ _ _ wr => ∃ k : Nat, k ≤ lt.size ∧ iv = .int .i64 (k : Int) ∧ lv = .int .i64 ((sumL (byN s) row ((letters s).take k) : Nat) : Int) ∧ Hid (∀ j, j < k → ((letters s).getD j 0).toNat < c) ∧ Below w.heap.size w wr) (fun iv _ _ _ _ _ => lt.size - (intOf iv).toNat)
  case atStart => exact ⟨0, by omega, rfl, rfl, fun j hj => by omega, Below.refl _ _⟩
  case round =>
    obtain ⟨k, hk, rfl, rfl, HN, hb⟩ := hrel
    have h1r := h1.below hb h1.lt
    have hsl := sumL_le s row ((letters s).take k) (by rw [List.length_take]; have := letters_le s; omega)
    by_cases hlt2 : k < lt.size
    · obtain ⟨a, b, d, r1, r2, r3, r4⟩ := h3 k hlt2
      obtain ⟨gr, cap2, hv2, _, hcell'⟩ := own_cells3 (own_below3 h2 hb) (by omega)
      obtain ⟨rfl, rfl⟩ : ao = some ⟨gr, 0, none⟩ ∧ cap = cap2 := by simpa using hv2
      obtain ⟨gw, ga, W, rfl, rfl, rfl, r5⟩ := id r4
      have c0 := (hcell' _ _ (by omega) r1 (.cells #[] 0)).2
      have c1 := (hcell' _ _ (by omega) r2 (.cells #[] 0)).2
      have c2 := (hcell' _ _ (by omega) r3 (.cells #[] 0)).2
      rw [Nat.mul_comm 3 k] at c0 c1 c2
      have hbA := (Below.refl wr.heap.size wr).alloc (Nat.le_refl _) (.cells #[.int .i64 (s.size : Int), .slice (some ⟨gw, 0, none⟩) (s.size / 64 + 1) (s.size / 64 + 1), .slice (some ⟨ga, 0, none⟩) (s.size / 64 + 1) (s.size / 64 + 1)] 73)
      have hc1 : ∀ o, (wr.alloc o).cell? ⟨g, 1, none⟩ = some (.string lt) := fun o => (h1r.alloc o).cell 1
      have hones := ((r4.below hb).below hbA).ones (by omega) hr
      have hbb := hb.alloc hb.size (.cells #[.int .i64 (s.size : Int), .slice (some ⟨gw, 0, none⟩) (s.size / 64 + 1) (s.size / 64 + 1), .slice (some ⟨ga, 0, none⟩) (s.size / 64 + 1) (s.size / 64 + 1)] 73)
      rw [cnt_isLet s lt k row hr hlt2] at hones
      have hxk := HGe.out k hlt2
      have HX : Hid ((lt[k]).toNat = ((letters s).getD k 0).toNat) := by show (lt[k]).toNat = _; rw [hxk]
      have HTK : Hid (sumL (byN s) row ((letters s).take (k + 1)) = sumL (byN s) row ((letters s).take k) + cnt (byN s) (lt[k]).toNat row) := by
        show sumL (byN s) row ((letters s).take (k + 1)) = _
        rw [take_snoc _ _ (by rw [← HSZ.out]; exact hlt2), sumL_append, HX.out]; simp [sumL]
      have hcl := cnt_le (byN s) (lt[k]).toNat row
      have HO : Hid _ := hones
      clear hxk hones
      rcases Nat.lt_trichotomy (lt[k]).toNat c with hx | hx | hx
      · have hd1 : decide (((lt[k]).toNat : Int) < (c : Int)) = true := by simpa using hx
        have HN2 : Hid (∀ j, j < k + 1 → ((letters s).getD j 0).toNat < c) := by
          intro j hj
          by_cases e : j = k
          · rw [e, ← HX.out]; exact hx
          · exact HN.out j (by omega)
        go_wp2_with fail
        refine Calls.mono HO.out ?_
        rintro e w2 ⟨rfl, hb2⟩
        have hbb2 := hbb.trans (hb2.mono hbb.size)
        go_wp2
        go_roundw
        case rel => exact ⟨k + 1, by omega, by go_num, by rw [HTK.out]; go_num, HN2, hbb2⟩
        case measure => simp [intOf]; omega
      · have HE : Hid (sumL (byN s) row ((letters s).take k) = less (byN s) c row) := count_end s c k row hr hc (by rw [← HSZ.out]; exact hk) HN.out (fun _ => by rw [← HX.out]; omega)
        clear HTK HX HN
        subst hx
        go_wp2_with fail
        refine Calls.mono HO.out ?_
        rintro e w2 ⟨rfl, hb2⟩
        have hbb2 := hbb.trans (hb2.mono hbb.size)
        go_wp2
        go_ret2
        exact ⟨by rw [HE.out]; rfl, hbb2⟩
      · have HE : Hid (sumL (byN s) row ((letters s).take k) = less (byN s) c row) := count_end s c k row hr hc (by rw [← HSZ.out]; exact hk) HN.out (fun _ => by rw [← HX.out]; omega)
        have HC : Hid (cnt (byN s) c row = 0) := count_none s c k row hr hc (by rw [← HSZ.out]; exact hk) HN.out (fun _ => by rw [← HX.out]; exact hx)
        clear HTK HX HN HO HGe HSZ hcell' h3 h2 r4 r5 hcl
        have hd1 : ((lt[k]).toNat : Int) = (c : Int) → False := by omega
        have hd2 : ¬ (lt[k]).toNat < c := by omega
        go_wp2
        go_ret2
        exact ⟨by rw [HE.out, HC.out]; rfl, hbb⟩
    · have hk2 : k = lt.size := by omega
      have HE : Hid (sumL (byN s) row ((letters s).take k) = less (byN s) c row) := count_end s c k row hr hc (by rw [← HSZ.out]; exact hk) HN.out (fun h => by rw [← HSZ.out] at h; omega)
      have HC : Hid (cnt (byN s) c row = 0) := count_none s c k row hr hc (by rw [← HSZ.out]; exact hk) HN.out (fun h => by rw [← HSZ.out] at h; omega)
      clear hk2
      go_wp2
      go_ret2
      exact ⟨by rw [HE.out, HC.out]; rfl, hb⟩
end Go.Proofs.Ytkebgnpifmcmaaa
