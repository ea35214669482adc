import Derived.Test.YtkebgnpifmcmaabGreatGD
namespace Go.Proofs.YtkebgnpifmcmaabGreat
open Go.RowKit

theorem m_fm (a : Addr) : Meth 180 (.pointer (some a)) "Among" 177 := ⟨fun _ => by kernel_rfl, Go.MuLone.run_callFunc_enter (P := Tryz.prog) Tryz.func177 (by kernel_rfl) rfl⟩
theorem m_mm (a : Addr) : Meth 182 (.pointer (some a)) "Among" 181 := ⟨fun _ => by kernel_rfl, Go.MuLone.run_callFunc_enter (P := Tryz.prog) Tryz.func181 (by kernel_rfl) rfl⟩

/-- The bytes that stand in these rows, rising. -/
def amongL (b : Nat → Nat) (lo hi : Nat) : List UInt8 := lets (fun c => decide (cnt b c lo < cnt b c hi)) 256
theorem lets_congr {F G : Nat → Bool} {m : Nat} (h : ∀ c, c < m → F c = G c) : lets F m = lets G m := by
  induction m with
  | zero => rfl
  | succ m ih => simp only [lets]; rw [ih (fun c hc => h c (by omega)), h m (by omega)]
theorem lets_filter (F G : Nat → Bool) (m : Nat) (hm : m ≤ 256) : (lets F m).filter (fun x => G x.toNat) = lets (fun c => F c && G c) m := by
  induction m with
  | zero => rfl
  | succ m ih =>
    simp only [lets]
    have hv : (UInt8.ofNat m).toNat = m := ofNat_toNat (by omega)
    rw [List.filter_append, ih (by omega)]
    congr 1
    by_cases hF : F m = true
    · by_cases hG : G m = true
      · simp [hF, hG, hv]
      · simp [hF, hG, hv]
    · simp [hF]
theorem mem_lets (F : Nat → Bool) (m : Nat) (hm : m ≤ 256) (c : UInt8) : c ∈ lets F m ↔ c.toNat < m ∧ F c.toNat = true := by
  induction m with
  | zero => simp [lets]
  | succ m ih =>
    have hv : (UInt8.ofNat m).toNat = m := ofNat_toNat (by omega)
    rw [lets, List.mem_append, ih (by omega)]
    by_cases e : c.toNat = m
    · have ec : c = UInt8.ofNat m := UInt8.toNat_inj.1 (by rw [hv, e])
      subst ec
      rw [hv]
      cases hF : F m <;> simp
    · have hne : c ≠ UInt8.ofNat m := fun h => e (by rw [h, hv])
      constructor
      · rintro (h | h)
        · exact ⟨by omega, h.2⟩
        · split at h
          · exact absurd (by simpa using h) hne
          · cases h
      · rintro ⟨h1, h2⟩
        exact .inl ⟨by omega, h2⟩
theorem lets_nodup (F : Nat → Bool) (m : Nat) (hm : m ≤ 256) : (lets F m).Nodup := by
  induction m with
  | zero => exact List.nodup_nil
  | succ m ih =>
    have hv : (UInt8.ofNat m).toNat = m := ofNat_toNat (by omega)
    rw [lets, List.nodup_append]
    refine ⟨ih (by omega), by split <;> simp, ?_⟩
    rintro a ha b hb rfl
    split at hb
    · have h1 : a = UInt8.ofNat m := by simpa using hb
      have := ((mem_lets F m (by omega) a).1 ha).1
      rw [h1, hv] at this
      omega
    · cases hb
theorem amongL_few (s : ByteArray) (lo hi : Nat) (hh : hi ≤ s.size) : (letters s).filter (fun x => decide (cnt (byN s) x.toNat lo < cnt (byN s) x.toNat hi)) = amongL (byN s) lo hi := by
  rw [letters, lets_filter (occ s s.size) (fun c => decide (cnt (byN s) c lo < cnt (byN s) c hi)) 256 (Nat.le_refl _), amongL]
  refine lets_congr (fun c _ => ?_)
  have := cnt_mono (byN s) c hh
  by_cases h : cnt (byN s) c lo < cnt (byN s) c hi
  · rw [decide_eq_true h, occ, decide_eq_true (by omega)]; rfl
  · rw [decide_eq_false h, Bool.and_false]
theorem cnt_add (b : Nat → Nat) (c lo m : Nat) : cnt b c (lo + m) = cnt b c lo + cnt (fun i => b (lo + i)) c m := by
  induction m with
  | zero => rfl
  | succ m ih => rw [← Nat.add_assoc, cnt_succ, ih, cnt_succ]; omega
theorem amongL_many (s : ByteArray) (lo hi : Nat) (hl : lo ≤ hi) (hh : hi ≤ s.size) : letters (s.extract lo hi) = amongL (byN s) lo hi := by
  have hsz : (s.extract lo hi).size = hi - lo := by rw [ByteArray.size_extract]; omega
  rw [letters, amongL]
  refine lets_congr (fun c _ => ?_)
  have h1 : cnt (byN (s.extract lo hi)) c (hi - lo) = cnt (fun i => byN s (lo + i)) c (hi - lo) := cnt_congr (fun i hi' => by
    rw [byN_lt _ _ (by rw [hsz]; exact hi'), byN_lt s (lo + i) (by omega)]
    simp [ByteArray.getElem_extract]) c
  have h2 := cnt_add (byN s) c lo (hi - lo)
  rw [show lo + (hi - lo) = hi from by omega] at h2
  rw [occ, hsz, h1]
  by_cases h : cnt (fun i => byN s (lo + i)) c (hi - lo) = 0
  · rw [decide_eq_false (by omega), decide_eq_false (by omega)]
  · rw [decide_eq_true (by omega), decide_eq_true (by omega)]
end Go.Proofs.YtkebgnpifmcmaabGreat

namespace Go.Proofs.YtkebgnpifmcmaabGreat
open Go.RowKit

theorem enterOnes (args : Array Value) (w : World) : (callFunc 132 args).run Tryz.prog w = .ok (.enter 132 args) w := Go.MuLone.run_callFunc_enter (P := Tryz.prog) Tryz.func132 (by kernel_rfl) rfl args w
/-- The letters that stand in these rows, among the first k. -/
def amK (s : ByteArray) (lo hi k : Nat) : List UInt8 := ((letters s).take k).filter (fun x => decide (cnt (byN s) x.toNat lo < cnt (byN s) x.toNat hi))
theorem amK_le (s : ByteArray) (lo hi k : Nat) : (amK s lo hi k).length ≤ k := Nat.le_trans (List.length_filter_le _ _) (by rw [List.length_take]; omega)

set_option maxRecDepth 10000 in
set_option maxHeartbeats 2000000 in
theorem few_among (w : World) (g lo up : Nat) (s : ByteArray) (h : FewC w g s (bs (letters s))) (hn : s.size ≤ 2000) (hl : lo ≤ s.size) (hu : up ≤ s.size) : Calls Tryz.prog 177 #[.pointer (some ⟨g, 0, none⟩), .int .i64 (lo : Int), .int .i64 (up : Int)] w fun e w' => e = .returned (.string (bs (amongL (byN s) lo up))) ∧ Below w.heap.size w w' := by
  obtain ⟨base, v, xs, h1, h2, h3⟩ := h
  obtain ⟨i0, hi, hz0, hz1, hz2⟩ := info_parts Tryz.info5
  have hlen := letters_le s
  have hsz := bs_size (letters s)
  have HGe : Hid (∀ k (h : k < (bs (letters s)).size), (bs (letters s))[k] = (letters s).getD k 0) := bs_letters s
  obtain ⟨lt, hlt⟩ : ∃ lt, lt = bs (letters s) := ⟨_, rfl⟩
  rw [← hlt] at h1 h2 h3 hsz HGe
  have hl1 : lt.size ≤ 256 := by omega
  have HSZ : Hid (lt.size = (letters s).length) := hsz
  clear hsz hlt hlen
  have HEnd : Hid (amK s lo up lt.size = amongL (byN s) lo up) := by
    show amK s lo up lt.size = _
    rw [amK, HSZ.out, List.take_length]
    exact amongL_few s lo up hu
  have hvs : ∃ ao cap, v = .slice ao lt.size cap := by
    rcases h2.2 with ⟨rfl, h0⟩ | ⟨gg, cap, cur, rfl, _⟩
    · exact ⟨none, 0, by rw [h0]⟩
    · exact ⟨_, _, rfl⟩
  obtain ⟨ao, cap, rfl⟩ := hvs
  have hc2 : w.cell? ⟨g, 2, none⟩ = some (.slice ao lt.size cap) := h1.cell 2
  go_enter Tryz.func177, Tryz.ntmps177
  go_wp2_with fail
  clear hc2
  go_loopw [15, 7, 8, 9] (fun iv lv _ _ wr => ∃ k : Nat, k ≤ lt.size ∧ iv = .int .i64 (k : Int) ∧ wr.ownsRow w.heap.size 5 1 lv (amK s lo up k).length (BL (amK s lo up k)) ∧ Below w.heap.size w wr) (fun iv _ _ _ _ => lt.size - (intOf iv).toNat)
  case atStart => exact ⟨0, by omega, rfl, World.ownsRow_nil _ _ _ _, Below.refl _ _⟩
  case round =>
    obtain ⟨k, hk, rfl, hown, hb⟩ := hrel
    have h1r := h1.below hb h1.lt
    have haml := amK_le s lo up k
    by_cases hlt2 : k < lt.size
    · obtain ⟨a, b, d, r1, r2, r3, r4⟩ := h3 k hlt2
      obtain ⟨gr, cap2, hv2, _, hcell'⟩ := own_cells3 (own_below3 h2 hb) (by omega)
      obtain ⟨rfl, rfl⟩ : ao = some ⟨gr, 0, none⟩ ∧ cap = cap2 := by simpa using hv2
      obtain ⟨gw, ga, W, rfl, rfl, rfl, r5⟩ := id r4
      have c0 := (hcell' _ _ (by omega) r1 (.cells #[] 0)).2
      have c1 := (hcell' _ _ (by omega) r2 (.cells #[] 0)).2
      have c2 := (hcell' _ _ (by omega) r3 (.cells #[] 0)).2
      rw [Nat.mul_comm 3 k] at c0 c1 c2
      have m9 := Blk.new wr 70 #[.int .i64 (s.size : Int), .slice (some ⟨gw, 0, none⟩) (s.size / 64 + 1) (s.size / 64 + 1), .slice (some ⟨ga, 0, none⟩) (s.size / 64 + 1) (s.size / 64 + 1)]
      have hbA := (Below.refl wr.heap.size wr).alloc (Nat.le_refl _) (.cells #[.int .i64 (s.size : Int), .slice (some ⟨gw, 0, none⟩) (s.size / 64 + 1) (s.size / 64 + 1), .slice (some ⟨ga, 0, none⟩) (s.size / 64 + 1) (s.size / 64 + 1)] 70)
      have hbV := hb.alloc hb.size (.cells #[.int .i64 (s.size : Int), .slice (some ⟨gw, 0, none⟩) (s.size / 64 + 1) (s.size / 64 + 1), .slice (some ⟨ga, 0, none⟩) (s.size / 64 + 1) (s.size / 64 + 1)] 70)
      have hownV := own_below hown hbA
      have h1V := h1r.alloc (.cells #[.int .i64 (s.size : Int), .slice (some ⟨gw, 0, none⟩) (s.size / 64 + 1) (s.size / 64 + 1), .slice (some ⟨ga, 0, none⟩) (s.size / 64 + 1) (s.size / 64 + 1)] 70)
      have r4V := (r4.below hb).below hbA
      have hxk := HGe.out k hlt2
      have HX : Hid (lt[k] = (letters s).getD k 0) := hxk
      have HTK : Hid ((letters s).take (k + 1) = (letters s).take k ++ [lt[k]]) := by
        show (letters s).take (k + 1) = _
        rw [take_snoc _ _ (by rw [← HSZ.out]; exact hlt2), HX.out]
      clear hxk HX hown hbA h1r
      go_upto_region 5 with fail
      generalize wr.alloc (.cells #[.int .i64 (s.size : Int), .slice (some ⟨gw, 0, none⟩) (s.size / 64 + 1) (s.size / 64 + 1), .slice (some ⟨ga, 0, none⟩) (s.size / 64 + 1) (s.size / 64 + 1)] 70) = V at *
      have r4D : BR V.drew _ _ _ s.size (isLet s lt k) := r4V
      have HLO : Hid (∀ w', Below V.drew.heap.size V.drew w' → Calls Tryz.prog 132 #[.agg #[.int .i64 (s.size : Int), .slice (some ⟨gw, 0, none⟩) (s.size / 64 + 1) (s.size / 64 + 1), .slice (some ⟨ga, 0, none⟩) (s.size / 64 + 1) (s.size / 64 + 1)], .int .i64 (lo : Int)] w' fun e w2 => e = .returned (.int .i64 ((cnt (byN s) (lt[k]).toNat lo : Nat) : Int)) ∧ Below w'.heap.size w' w2) := fun w' hb' => by
        have := (r4D.below hb').ones (by omega) hl
        rw [cnt_isLet s lt k lo hl hlt2] at this
        exact this
      have HUP : Hid (∀ w', Below V.drew.heap.size V.drew w' → Calls Tryz.prog 132 #[.agg #[.int .i64 (s.size : Int), .slice (some ⟨gw, 0, none⟩) (s.size / 64 + 1) (s.size / 64 + 1), .slice (some ⟨ga, 0, none⟩) (s.size / 64 + 1) (s.size / 64 + 1)], .int .i64 (up : Int)] w' fun e w2 => e = .returned (.int .i64 ((cnt (byN s) (lt[k]).toNat up : Nat) : Int)) ∧ Below w'.heap.size w' w2) := fun w' hb' => by
        have := (r4D.below hb').ones (by omega) hu
        rw [cnt_isLet s lt k up hu hlt2] at this
        exact this
      have m9D : Blk V.drew wr.heap.size 70 #[.int .i64 (s.size : Int), .slice (some ⟨gw, 0, none⟩) (s.size / 64 + 1) (s.size / 64 + 1), .slice (some ⟨ga, 0, none⟩) (s.size / 64 + 1) (s.size / 64 + 1)] := m9
      have h1D : Blk V.drew g 196 _ := h1V
      have hownD : V.drew.ownsRow w.heap.size 5 1 u7 (amK s lo up k).length (BL (amK s lo up k)) := hownV
      have hbD : Below w.heap.size w V.drew := hbV.drew
      have y0 : V.cell? ⟨wr.heap.size, 0, none⟩ = some (.int .i64 (s.size : Int)) := m9.cell 0
      have y1 : V.cell? ⟨wr.heap.size, 1, none⟩ = some (.slice (some ⟨gw, 0, none⟩) (s.size / 64 + 1) (s.size / 64 + 1)) := m9.cell 1
      have y2 : V.cell? ⟨wr.heap.size, 2, none⟩ = some (.slice (some ⟨ga, 0, none⟩) (s.size / 64 + 1) (s.size / 64 + 1)) := m9.cell 2
      have y0' : V.drew.cell? ⟨wr.heap.size, 0, none⟩ = some (.int .i64 (s.size : Int)) := y0
      have y1' : V.drew.cell? ⟨wr.heap.size, 1, none⟩ = some (.slice (some ⟨gw, 0, none⟩) (s.size / 64 + 1) (s.size / 64 + 1)) := y1
      have y2' : V.drew.cell? ⟨wr.heap.size, 2, none⟩ = some (.slice (some ⟨ga, 0, none⟩) (s.size / 64 + 1) (s.size / 64 + 1)) := y2
      have hQ : Hid (amK s lo up (k + 1) = if cnt (byN s) (lt[k]).toNat lo < cnt (byN s) (lt[k]).toNat up then amK s lo up k ++ [lt[k]] else amK s lo up k) := by
        show amK s lo up (k + 1) = _
        unfold amK
        rw [HTK.out, List.filter_append]
        by_cases hq : cnt (byN s) (lt[k]).toNat lo < cnt (byN s) (lt[k]).toNat up
        · rw [if_pos hq]; simp [hq]
        · rw [if_neg hq]; simp [hq]
      have hcl := cnt_le (byN s) (lt[k]).toNat lo
      have hcu := cnt_le (byN s) (lt[k]).toNat up
      clear HTK m9 h1V hownV hbV r4V r4D y0 y1 y2 c0 c1 c2 r5 r4 r1 r2 r3 hcell' h3 h2 HGe HSZ
      go_cut [26] from 20 to 26 (fun q wx => ∃ W2, W2 = wx ∧ q = .bool (decide (cnt (byN s) (lt[k]).toNat lo < cnt (byN s) (lt[k]).toNat up)) ∧ Below V.drew.heap.size V.drew W2)
      case first =>
        generalize cnt (byN s) (lt[k]).toNat lo = CL at *
        generalize cnt (byN s) (lt[k]).toNat up = CU at *
        go_region_law (first
          | (refine step_calls (args := #[.agg #[.int .i64 (s.size : Int), .slice (some ⟨gw, 0, none⟩) (s.size / 64 + 1) (s.size / 64 + 1), .slice (some ⟨ga, 0, none⟩) (s.size / 64 + 1) (s.size / 64 + 1)], .int .i64 (lo : Int)]) rfl rfl enterOnes (by simp [Act.eval]) (HLO.out V.drew (Below.refl _ _)) ?_; rintro en wa ⟨rfl, hba⟩; refine ⟨_, rfl, ?_⟩; have z0 := (m9D.below hba m9D.lt).cell 0; have z1 := (m9D.below hba m9D.lt).cell 1; have z2 := (m9D.below hba m9D.lt).cell 2)
          | (refine step_calls (args := #[.agg #[.int .i64 (s.size : Int), .slice (some ⟨gw, 0, none⟩) (s.size / 64 + 1) (s.size / 64 + 1), .slice (some ⟨ga, 0, none⟩) (s.size / 64 + 1) (s.size / 64 + 1)], .int .i64 (up : Int)]) rfl rfl enterOnes (by simp [Act.eval, Act.put]) (HUP.out V.drew (Below.refl _ _)) ?_; rintro en wb ⟨rfl, hbb⟩; refine ⟨_, rfl, ?_⟩; have z0 := (m9D.below hbb m9D.lt).cell 0; have z1 := (m9D.below hbb m9D.lt).cell 1; have z2 := (m9D.below hbb m9D.lt).cell 2)
          | (refine step_calls (args := #[.agg #[.int .i64 (s.size : Int), .slice (some ⟨gw, 0, none⟩) (s.size / 64 + 1) (s.size / 64 + 1), .slice (some ⟨ga, 0, none⟩) (s.size / 64 + 1) (s.size / 64 + 1)], .int .i64 (lo : Int)]) rfl rfl enterOnes (by simp [Act.eval, Act.put]) (HLO.out wb hbb) ?_; rintro en wc ⟨rfl, hbc⟩; refine ⟨_, rfl, ?_⟩; have hbz := hbb.trans (hbc.mono hbb.size))
          | (refine step_calls (args := #[.agg #[.int .i64 (s.size : Int), .slice (some ⟨gw, 0, none⟩) (s.size / 64 + 1) (s.size / 64 + 1), .slice (some ⟨ga, 0, none⟩) (s.size / 64 + 1) (s.size / 64 + 1)], .int .i64 (up : Int)]) rfl rfl enterOnes (by simp [Act.eval]) (HUP.out wa hba) ?_; rintro en wc ⟨rfl, hbc⟩; refine ⟨_, rfl, ?_⟩; have hbz := hba.trans (hbc.mono hba.size)))
        all_goals (go_wp2_with fail)
        all_goals go_meet
        all_goals exact ⟨_, rfl, rfl, hbz⟩
      case rest =>
        obtain ⟨W2, rfl, hq1, hbx⟩ := hcut
        have hbxx := hbD.trans (hbx.mono hbD.size)
        have hownX := own_below hownD hbx
        have hcL : W2.cell? ⟨g, 1, none⟩ = some (.string lt) := (h1D.below hbx h1D.lt).cell 1
        have hsx := hbxx.size
        clear hownD h1D m9D y0' y1' y2' HLO HUP
        by_cases hq : cnt (byN s) (lt[k]).toNat lo < cnt (byN s) (lt[k]).toNat up
        · have hqd : decide (cnt (byN s) (lt[k]).toNat lo < cnt (byN s) (lt[k]).toNat up) = true := by simpa using hq
          rw [hqd] at hq1
          subst hq1
          clear hqd
          rw [if_pos hq] at hQ
          have HR : Hid (∀ (v' : Value) (w1 : World), w1.ownsRow w.heap.size 5 1 v' ((amK s lo up k).length + 1) (BL (amK s lo up k) ++ [.int .u8 ((lt[k]).toNat : Int)]) → w1.ownsRow w.heap.size 5 1 v' (amK s lo up (k + 1)).length (BL (amK s lo up (k + 1)))) := fun v' w1 ho => by
            rw [BL_snoc] at ho
            rw [hQ.out, List.length_append]
            exact ho
          clear hQ hq
          generalize cnt (byN s) (lt[k]).toNat lo = CL at *
          generalize cnt (byN s) (lt[k]).toNat up = CU at *
          generalize BL (amK s lo up k) = XS at *
          generalize (amK s lo up k).length = LA at *
          go_wp2_with (at_builtin; refine wpList_append_own _ rfl (.tmp 27) (.tmp 34) 75 rfl w.heap.size 5 i0 (.int .u8 0) 1 1 Tryz.underlying75 hi hz0 hz1 hz2 rfl (by decide) u7 LA XS rfl (hownX.alloc _) ⟨W2.heap.size, 0, none⟩ 1 1 [.int .u8 ((lt[k]).toNat : Int)] rfl rfl (cell_one_new _ _ _) (by simp; rfl) (by unfold maxLen; omega) (by omega) (by simp; omega) ?_; intro v' w1 hown1 hgr1 _)
          have hb1 : Below w.heap.size w w1 := (hbxx.alloc hsx _).grown hgr1 (by simp; omega) (fun k hk => (hownX.lt k hk).1)
          go_roundw
          case rel => exact ⟨k + 1, by omega, by go_num, HR.out _ _ hown1, hb1⟩
          case measure => simp [intOf]; omega
        · have hqd : decide (cnt (byN s) (lt[k]).toNat lo < cnt (byN s) (lt[k]).toNat up) = false := by simpa using hq
          rw [hqd] at hq1
          subst hq1
          clear hqd
          rw [if_neg hq] at hQ
          go_wp2
          go_roundw
          case rel => exact ⟨k + 1, by omega, by go_num, by rw [hQ.out]; exact hownX, hbxx⟩
          case measure => simp [intOf]; omega
    · have hk2 : k = lt.size := by omega
      subst hk2
      have hcv := conv_own hown
      rw [HEnd.out] at hcv
      clear hown
      go_wp2
      go_ret
      exact ⟨rfl, hb⟩
end Go.Proofs.YtkebgnpifmcmaabGreat

namespace Go.Proofs.YtkebgnpifmcmaabGreat
open Go.RowKit

theorem many_among (w : World) (g lo up : Nat) (s : ByteArray) (h : ManyC w g s) (hn : s.size ≤ 2000) (hl : lo ≤ up) (hu : up ≤ s.size) : Calls Tryz.prog 181 #[.pointer (some ⟨g, 0, none⟩), .int .i64 (lo : Int), .int .i64 (up : Int)] w fun e w' => e = .returned (.string (bs (amongL (byN s) lo up))) ∧ Below w.heap.size w w' := by
  obtain ⟨base, v, h1, h2⟩ := h
  have hc : w.cell? ⟨g, 0, none⟩ = some (.string s) := h1.cell 0
  have hsz : (s.extract lo up).size ≤ 2000 := by rw [ByteArray.size_extract]; omega
  have HL : Hid (Calls Tryz.prog 154 #[.string (s.extract lo up)] w fun e w' => e = .returned (.string (bs (amongL (byN s) lo up))) ∧ Below w.heap.size w w') := by
    show Calls _ _ _ _ _
    rw [← amongL_many s lo up hl hu]
    exact lettersOf_any (s.extract lo up) w hsz
  have d1 : (lo : Int) ≤ (up : Int) := by omega
  have d2 : (up : Int) ≤ (s.size : Int) := by omega
  clear h1 h2 hsz
  go_enter Tryz.func181, Tryz.ntmps181
  go_wp2_with fail
  refine Calls.mono HL.out ?_
  clear HL
  rintro en w1 ⟨rfl, hb⟩
  go_wp2
  go_ret
  exact ⟨rfl, hb⟩

/-- Which bytes stand in these rows: of whichever kind. -/
theorem Ctr.among {w : World} {v : Value} {s : ByteArray} (h : Ctr w v s) (hn : s.size ≤ 2000) : ∃ t x kM, v = .iface t x ∧ Meth t x "Among" kM ∧
    Hid (∀ w' (lo up : Nat), lo ≤ up → up ≤ s.size → Below w.heap.size w w' → Calls Tryz.prog kM #[x, .int .i64 (lo : Int), .int .i64 (up : Int)] w' fun e w2 => e = .returned (.string (bs (amongL (byN s) lo up))) ∧ Below w'.heap.size w' w2) := by
  rcases h with ⟨_, g, rfl, h⟩ | ⟨_, g, rfl, h⟩
  · exact ⟨_, _, _, rfl, m_fm _, fun w' lo up h1 h2 hb => few_among w' g lo up s (h.below hb) hn (by omega) h2⟩
  · exact ⟨_, _, _, rfl, m_mm _, fun w' lo up h1 h2 hb => many_among w' g lo up s (h.below hb) hn h1 h2⟩

set_option maxRecDepth 10000 in
set_option maxHeartbeats 1000000 in
theorem side_among (w : World) (g off e lo up : Nat) (s : ByteArray) (h : SideP w g off s e) (hn : s.size ≤ 2000) (hl : lo ≤ up) (hu : up ≤ s.size + 1) (he2 : e ≤ s.size) : Calls Tryz.prog 119 #[.pointer (some ⟨g, off, none⟩), .int .i64 (lo : Int), .int .i64 (up : Int)] w fun en w' => en = .returned (.string (bs (amongL (byN s) (idx e lo) (idx e up)))) ∧ Below w.heap.size w w' := by
  have HCL : Hid _ := side_counted w.drew g off e lo s (h.below (Below.refl _ _).drew) hn (by omega)
  have HCU : Hid _ := side_counted w.drew g off e up s (h.below (Below.refl _ _).drew) hn hu
  obtain ⟨v, h1, h2, h3, h4⟩ := h
  obtain ⟨t, x, kM, rfl, hm, HM⟩ := h4.among hn
  clear h4
  have hi1 : idx e lo ≤ idx e up := by rw [idxOf, idxOf]; split <;> split <;> omega
  have hi2 : idx e up ≤ s.size := by rw [idxOf]; split <;> omega
  have HMM : Hid _ := HM.out w.drew (idx e lo) (idx e up) hi1 hi2 (Below.refl _ _).drew
  have h1' : w.drew.cell? ⟨g, off, none⟩ = some (.iface t x) := h1
  clear HM
  generalize amongL (byN s) (idx e lo) (idx e up) = AL at *
  generalize idx e lo = IL at *
  generalize idx e up = IU' at *
  go_enter Tryz.func119, Tryz.ntmps119
  go_upto_region 1 with fail
  go_region_law (first
    | (refine step_calls (args := #[.pointer (some ⟨g, off, none⟩), .int .i64 (lo : Int)]) rfl rfl enterCounted ?_ HCL.out ?_; (focus (first | (simp [Act.eval]; done) | (simp [Act.eval, Act.put]; done))); rintro en w1 ⟨rfl, rfl⟩; refine ⟨_, rfl, ?_⟩)
    | (refine step_calls (args := #[.pointer (some ⟨g, off, none⟩), .int .i64 (up : Int)]) rfl rfl enterCounted ?_ HCU.out ?_; (focus (first | (simp [Act.eval]; done) | (simp [Act.eval, Act.put]; done))); rintro en w1 ⟨rfl, rfl⟩; refine ⟨_, rfl, ?_⟩)
    | (refine step_meth (args := #[.int .i64 (IL : Int), .int .i64 (IU' : Int)]) rfl rfl rfl hm ?_ HMM.out ?_; (focus (first | (simp [Act.eval]; done) | (simp [Act.eval, Act.put]; done))); rintro en w2 ⟨rfl, hb⟩; refine ⟨_, rfl, ?_⟩))
  all_goals
    have hb' : Below w.heap.size w w2 := (Below.refl w.heap.size w).drew.trans hb
    go_wp2
    go_ret
    exact ⟨rfl, hb'⟩
end Go.Proofs.YtkebgnpifmcmaabGreat
