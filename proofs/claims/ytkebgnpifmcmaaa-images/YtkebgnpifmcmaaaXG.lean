import Derived.Test.YtkebgnpifmcmaaaXE
import Derived.Great.BuildSlice
namespace Go.Proofs.Ytkebgnpifmcmaaa
open Go.RowKit

theorem infoTally : (Try.prog.info? 151).map (fun i => (i.zero, i.size)) = some (some (.agg (AN 257 fun _ => .int .i64 0)), 257) := by kernel_rfl
theorem infoTally_size : (Try.prog.info? 151).map (·.size) = some 257 := by kernel_rfl
theorem AN_congr (n : Nat) (F G : Nat → Value) (h : ∀ j, j < n → F j = G j) : AN n F = AN n G := by
  apply Array.ext_getElem?
  intro i
  by_cases hi : i < n
  · rw [AN_get _ _ _ hi, AN_get _ _ _ hi, h i hi]
  · have h1 : (AN n F)[i]? = none := by rw [Array.getElem?_eq_none_iff, AN_size]; omega
    have h2 : (AN n G)[i]? = none := by rw [Array.getElem?_eq_none_iff, AN_size]; omega
    rw [h1, h2]

set_option maxRecDepth 100000 in
set_option maxHeartbeats 1000000 in
theorem tallyOf_any (b cf : Nat → Nat) (k g : Nat) (w : World) (hk : k ≤ 3000) (hcf : ∀ c, c < 256 → cf c = cnt b c k) (hA : Arr w g cf) :
    Calls Try.prog 107 #[.pointer (some ⟨g, 0, none⟩)] w fun e w' => e = .returned (.agg (AN 257 (IN fun c => less b c k))) ∧ Below w.heap.size w w' := by
  have HCF : Hid _ := hcf
  clear hcf
  have hb0 : Below w.heap.size w ((w.alloc (.cells (AN 257 fun _ => .int .i64 0) 151)).alloc (.cells (AN 257 fun _ => .int .i64 0) 151)) := ((Below.refl _ _).alloc (Nat.le_refl _) _).alloc (by simp) _
  have hA0 := (hA.alloc (.cells (AN 257 fun _ => .int .i64 0) 151)).alloc (.cells (AN 257 fun _ => .int .i64 0) 151)
  have hr0 := (Blk.new w 151 (AN 257 fun _ => .int .i64 0)).alloc (.cells (AN 257 fun _ => .int .i64 0) 151)
  have hr1 := Blk.new (w.alloc (.cells (AN 257 fun _ => .int .i64 0) 151)) 151 (AN 257 fun _ => .int .i64 0)
  rw [show (w.alloc (.cells (AN 257 fun _ => .int .i64 0) 151)).heap.size = w.heap.size + 1 from by simp] at hr1
  have hgl := hA.lt
  clear hA
  go_enter Try.func107, Try.ntmps107
  go_wp2_with (refine wpList_alloc_AN rfl 151 257 (.int .i64 0) infoTally rfl ?_)
  generalize (w.alloc (.cells (AN 257 fun _ => .int .i64 0) 151)).alloc (.cells (AN 257 fun _ => .int .i64 0) 151) = W0 at *
  obtain ⟨G, hG⟩ : ∃ G, G = w.heap.size := ⟨_, rfl⟩
  rw [← hG] at hr0 hr1 hb0 hgl ⊢
  have HG : Hid (G = w.heap.size) := hG
  clear hG
  go_loopw [7, 4, 5] (fun iv _ _ wr => ∃ c : Nat, c ≤ 256 ∧ iv = .int .i64 (c : Int) ∧ Arr wr g cf ∧ Blk wr G 151 (AN 257 fun _ => .int .i64 0) ∧ (∃ F, Blk wr (G + 1) 151 (AN 257 (IN F)) ∧ Hid (∀ j, j < c + 1 → F j = less b j k)) ∧ Below G w wr) (fun iv _ _ _ => 256 - (intOf iv).toNat)
  case atStart => exact ⟨0, Nat.zero_le _, rfl, hA0, hr0, ⟨fun _ => 0, hr1, fun j hj => by rw [show j = 0 from by omega, less_zero]⟩, hb0⟩
  case round =>
    clear hA0 hr0 hr1 hb0
    obtain ⟨c, hc, rfl, hA, hr0, ⟨F, hr1, HF⟩, hb⟩ := hrel
    by_cases hlt : c < 256
    · have hc1 := hA.cell hlt
      have hc2 := hr1.cellAN (show c < 257 by omega)
      rw [IN_at] at hc2
      have hc3 := hr1.cellAN (show c + 1 < 257 by omega)
      have hfz := hr1.free (c + 1)
      have hq1 : (c : Int) < 256 := by omega
      have hle1 : cf c ≤ 3000 := by rw [HCF.out c hlt]; exact Nat.le_trans (cnt_le _ _ _) hk
      have hle2 : F c ≤ 3000 := by rw [HF.out c (by omega)]; exact Nat.le_trans (less_le _ _ _) hk
      have HN : Hid (F c + cf c = less b (c + 1) k) := by show F c + cf c = _; rw [HF.out c (by omega), HCF.out c hlt, less_succ]
      have hdr : ∀ q, (wr.drewN q).cell? ⟨G + 1, c, none⟩ = some (.int .i64 (F c : Int)) := fun q => hc2
      have hdr2 : ∀ q, (wr.drewN q).cell? ⟨G + 1, c + 1, none⟩ = some (IN F (c + 1)) := fun q => hc3
      have hdr3 : ∀ q, (wr.drewN q).frozen? ⟨G + 1, c + 1, none⟩ = false := fun q => hfz
      go_wp2_with fail
      go_quiet (fail)
      go_wp2
      go_roundw
      case rel =>
        refine ⟨c + 1, by omega, by go_num, (show Arr (wr.drewN _) g cf from hA).setOther (by show g ≠ G + 1; omega) _, (show Blk (wr.drewN _) G _ _ from hr0).setOther (by show G ≠ G + 1; omega) _, ⟨upd F (c + 1) (F c + cf c), ?_, upd_next HF.out HN.out⟩, (bdrewN hb _).setCell (by show G ≤ G + 1; omega) _⟩
        have := Blk.setAN (w := wr.drewN nq) hr1 (c + 1) (.int .i64 ((F c + cf c : Nat) : Int))
        rw [updV_IN] at this
        simpa using this
      case measure => simp [intOf]; omega
    · have hc256 : c = 256 := by omega
      subst hc256
      have HE : Hid (AN 257 (IN F) = AN 257 (IN fun c => less b c k)) := AN_congr _ _ _ (fun j hj => by simp only [IN, HF.out j hj])
      go_wp2_with (first | (refine wpList_load_row rfl 151 (.tmp 3) rfl (G + 1) rfl 151 (AN 257 (IN F)) (0, 0) _ hr1 Try.underlying151 rfl (by rw [AN_size]; exact infoTally_size) ?_) | (refine wpList_store_row rfl 151 (.tmp 2) (.tmp 22) rfl G (AN 257 (IN F)) rfl rfl 151 (AN 257 fun _ => .int .i64 0) hr0 (by rw [AN_size]; exact infoTally_size) (by rw [AN_size, AN_size]) (AN_one _ _ (fun _ => rfl)) ?_))
      rw [HG.out] at hb hr0
      exact bodyPost_ret (v := .agg (AN 257 (IN F))) (results_cell_row (P := Try.prog) rfl _ _ G 151 (AN 257 (IN F)) (0, 0) _ rfl (by rw [HG.out]; exact hr0.setRow _) Try.underlying151 rfl (by rw [AN_size]; exact infoTally_size)) rfl ⟨by rw [HE.out], by rw [HG.out]; exact below_setRow' hb (Nat.le_refl _) _⟩

theorem fill_one (cs zeros : Array Value) (n : Nat) (hn : 0 < n) (h : cs.size = n) (hz : zeros.size = n) : Instr.fill (fun i => some (i * n, n)) zeros [(0, .agg cs)] = some cs := by
  have := Great.fill_whole hn [.agg cs] zeros (fun v hv => by simp at hv; subst hv; exact h) (by simp [hz])
  simpa [Value.cells] using this
theorem step_buildOne {P : Program} {ops : Array Oper} {o : Oper} {a : Act} {w : World} {K : Act → World → Prop} {Q : Exit → Act → World → Prop} {E : Prop}
    (hg : o.guard = none) (t e : TypeId) (x : Operand) (ho : o.op = .buildSlice t 1 #[(0, x)]) (cs : Array Value) (hx : a.eval x = .agg cs) (ie : TypeInfo) (z : Value) (n : Nat) (hu : P.underlying t = some (.slice e)) (hie : P.info? e = some ie) (hz : ie.zero = some z) (hs : ie.size = n) (hn : 0 < n) (hn2 : n ≤ 10000) (hcs : cs.size = n)
    (hK : K (a.put o.dst (.slice (some ⟨w.heap.size, 0, none⟩) 1 1)) (w.alloc (.cells cs e))) :
    if Region.wanted o (yielded ops a.tmps) = true then Oper.wp P o a w K Q else E := by
  have hw : Region.wanted o (yielded ops a.tmps) = true := by simp [Region.wanted, hg]
  rw [if_pos hw]
  subst hs
  refine wp_buildSlice t e 1 #[(0, x)] ho cs ie z hu hie hz (by omega) (by omega) ?_ hK
  have : (#[(0, x)].map fun (i, x) => (i, a.eval x)).toList = [(0, .agg cs)] := by simp [hx]
  rw [this]
  exact fill_one cs _ _ hn hcs (by simp)

/-- The tallies, one behind the other. -/
def tl (b : Nat → Nat) : Nat → List Value
  | 0 => []
  | q + 1 => tl b q ++ (AN 257 (IN fun c => less b c (64 * q))).toList
theorem tl_length (b : Nat → Nat) (q : Nat) : (tl b q).length = q * 257 := by
  induction q with
  | zero => rfl
  | succ q ih => simp only [tl, List.length_append, ih, Array.length_toList, AN_size]; omega
theorem cell_arr_new (w : World) (T : TypeId) (cs : Array Value) : ∀ (j : Nat) (u : Value), cs.toList[j]? = some u → (w.alloc (.cells cs T)).cell? ((⟨w.heap.size, 0, none⟩ : Addr).add j) = some u := by
  intro j u h
  have hk := Blk.new w T cs
  have h2 : (⟨w.heap.size, 0, none⟩ : Addr).add j = ⟨w.heap.size, j, none⟩ := by
    unfold Addr.add
    by_cases e : j = 0
    · simp [e]
    · simp [e]
  rw [h2, hk.cell j]
  simpa using h
theorem AN_mem (n : Nat) (F : Nat → Value) (h : ∀ j, (F j).oneCell' = true) : ∀ u ∈ (AN n F).toList, u.oneCell' = true := by
  intro u hu
  simp only [AN, Array.toList_map, List.mem_map] at hu
  obtain ⟨j, _, rfl⟩ := hu
  exact h j
theorem enterTally (args : Array Value) (w : World) : (callFunc 107 args).run Try.prog w = .ok (.enter 107 args) w := Go.MuLone.run_callFunc_enter (P := Try.prog) Try.func107 (by kernel_rfl) rfl args w
theorem Try.infoTally3 : (Try.prog.info? 151).map (fun i => (i.zero, i.size, i.bytes)) = some (some (.agg (AN 257 fun _ => .int .i64 0)), 257, 2056) := by kernel_rfl

set_option maxRecDepth 100000 in
set_option maxHeartbeats 1000000 in
theorem newMany_any (s : ByteArray) (w : World) (hn : s.size ≤ 2000) :
    Calls Try.prog 103 #[.string s] w fun e w' => ∃ g v, e = .returned (.pointer (some ⟨g, 0, none⟩)) ∧ Blk w' g 145 #[.string s, v] ∧ w'.ownsRow w.heap.size 151 257 v (s.size / 64 + 1) (tl (byN s) (s.size / 64 + 1)) ∧ Below w.heap.size w w' := by
  obtain ⟨i0, hi, hz0, hz1, hz2⟩ := info_parts Try.infoTally3
  have HZ : Hid (i0.size = 257) := hz1
  have hs1 : ¬ 16777216 < i0.size := by omega
  have hs2 : ¬ i0.size = 0 := by omega
  have hs3 : ∀ F, (AN 257 F).size = i0.size := fun F => by rw [AN_size, hz1]
  clear hz1
  go_enter Try.func103, Try.ntmps103
  go_wp2_with (refine wpList_alloc_arr rfl rfl ?_)
  have k0 := (Blk.new w 145 #[.string s, .slice none 0 0]).alloc (.cells (A256 fun _ => 0) 37)
  have a0 := Arr.new (w.alloc (.cells #[.string s, .slice none 0 0] 145))
  rw [show (w.alloc (.cells #[.string s, .slice none 0 0] 145)).heap.size = w.heap.size + 1 from by simp] at a0
  have hb0 : Below w.heap.size w ((w.alloc (.cells #[.string s, .slice none 0 0] 145)).alloc (.cells (A256 fun _ => 0) 37)) := ((Below.refl _ _).alloc (Nat.le_refl _) _).alloc (by simp) _
  generalize (w.alloc (.cells #[.string s, .slice none 0 0] 145)).alloc (.cells (A256 fun _ => 0) 37) = W0 at *
  obtain ⟨G, hG⟩ : ∃ G, G = w.heap.size := ⟨_, rfl⟩
  rw [← hG] at k0 a0 hb0 ⊢
  have HG : Hid (G = w.heap.size) := hG
  clear hG
  go_loopw [5, 6] (fun iv _ wr => ∃ q p : Nat, Hid (p = 64 * q) ∧ p ≤ s.size + 64 ∧ iv = .int .i64 (p : Int) ∧ (∃ cf, Arr wr (G + 1) cf ∧ Hid (∀ c, cf c = cnt (byN s) c (min p s.size))) ∧ (∃ v, Blk wr G 145 #[.string s, v] ∧ wr.ownsRow G 151 257 v q (tl (byN s) q)) ∧ Below G w wr) (fun iv _ _ => s.size + 64 - (intOf iv).toNat)
  case atStart => exact ⟨0, 0, rfl, by omega, rfl, ⟨_, a0, fun c => by simp [cnt]⟩, ⟨_, k0, World.ownsRow_nil _ _ _ _⟩, hb0⟩
  case round =>
    clear k0 a0 hb0
    obtain ⟨q, p, HP, hq, rfl, ⟨cf, hA, HC⟩, ⟨v, hk, hown⟩, hb⟩ := hrel
    have hsz := hb.size
    by_cases hlt : p ≤ s.size
    · go_upto_region 6 with fail
      have hmin : min p s.size = p := by omega
      have hq31 : q ≤ 32 := by have := HP.out; omega
      have hAd : Arr wr.drew (G + 1) cf := hA
      have hkd : Blk wr.drew G 145 #[.string s, v] := hk
      have hownd : wr.drew.ownsRow G 151 257 v q (tl (byN s) q) := hown
      have hltG := hk.lt
      have hltA := hA.lt
      have hGV : G ≤ wr.drew.heap.size := Nat.le_of_lt hltG
      have hcv : wr.cell? ⟨G, 1, none⟩ = some v := hk.cell 1
      have HT : Hid (∀ c, c < 256 → cf c = cnt (byN s) c p) := fun c _ => by rw [HC.out c, hmin]
      clear hmin
      go_cut [5] from 16 to 25 (fun s5 wx => s5 = .int .i64 (p : Int) ∧ (∃ v', Blk wx G 145 #[.string s, v'] ∧ wx.ownsRow G 151 257 v' (q + 1) (tl (byN s) (q + 1))) ∧ Arr wx (G + 1) cf ∧ Below G w wx)
      case first =>
        refine wp_region_any (by kernel_rfl) ?_
        refine wpAny_take (i := 0) (v := .pointer (some ⟨G, 0, none⟩)) rfl (by kernel_rfl) (by kernel_rfl) (by kernel_rfl) (fun _ _ _ h => h) (Or.inl ⟨rfl, fun w => by go_simp⟩) ?_
        refine wpAny_take (i := 1) (v := .pointer (some ⟨G, 0, none⟩)) rfl (by kernel_rfl) (by kernel_rfl) (by kernel_rfl) (fun _ _ _ h => h) (Or.inl ⟨rfl, fun w => by go_simp⟩) ?_
        refine wpAny_take (i := 2) (v := .pointer (some ⟨G, 0, none⟩)) rfl (by kernel_rfl) (by kernel_rfl) (by kernel_rfl) (fun _ _ _ h => h) (Or.inl ⟨rfl, fun w => by go_simp⟩) ?_
        refine wpAny_take (i := 3) (v := .pointer (some ⟨G, 1, none⟩)) rfl (by kernel_rfl) (by kernel_rfl) (by kernel_rfl) (fun _ _ _ h => h) (Or.inl ⟨rfl, fun w => by go_simp⟩) ?_
        refine wpAny_ready (rs := [4, 5]) (by kernel_rfl) (by simp) ?_
        refine AllReady.cons rfl (fun K hK => ?_) (AllReady.cons rfl (fun K hK => ?_) AllReady.nil)
        · go_simp
          refine hK _ _ ?_
          clear hK
          refine wpAny_ready (rs := [5]) (by kernel_rfl) (by simp) ?_
          refine AllReady.cons rfl (fun K hK => ?_) AllReady.nil
          refine step_calls (args := #[.pointer (some ⟨G + 1, 0, none⟩)]) rfl rfl enterTally (by simp [Act.eval]) (tallyOf_any (byN s) cf p (G + 1) wr.drew (by omega) HT.out hAd) ?_
          rintro e w2 ⟨rfl, hb2⟩
          refine ⟨_, rfl, hK _ _ ?_⟩
          clear hK
          have hd1 : w2.cell? ⟨G, 1, none⟩ = some v := (hkd.below hb2 hltG).cell 1
          have hd2 : ∀ o, (w2.alloc o).cell? ⟨G, 1, none⟩ = some v := fun o => ((hkd.below hb2 hltG).alloc o).cell 1
          refine wpAny_ready (rs := [6]) (by kernel_rfl) (by simp) ?_
          refine AllReady.cons rfl (fun K hK => ?_) AllReady.nil
          refine step_buildOne rfl 143 151 (.tmp 21) rfl (AN 257 (IN fun c => less (byN s) c p)) rfl i0 _ 257 Try.underlying143 hi hz0 HZ.out (by omega) (by omega) (AN_size _ _) ?_
          refine hK _ _ ?_
          clear hK
          refine wpAny_ready (rs := [7]) (by kernel_rfl) (by simp) ?_
          refine AllReady.cons rfl (fun K hK => ?_) AllReady.nil
          refine step_append_own rfl (.tmp 20) (.tmp 22) 143 rfl G 151 i0 (.agg (AN 257 fun _ => .int .i64 0)) 257 2056 Try.underlying143 hi hz0 HZ.out hz2 (AN_size _ _) (by decide) v q (tl (byN s) q) rfl (own_below3 (own_below3 hownd hb2) ((Below.refl _ _).alloc (Nat.le_refl _) _)) ⟨w2.heap.size, 0, none⟩ 1 1 (AN 257 (IN fun c => less (byN s) c p)).toList rfl (by simp [AN_size]) (cell_arr_new _ _ _) (AN_mem _ _ (fun _ => rfl)) (by unfold maxLen; omega) (by omega) (by have := hb2.size; simp; omega) ?_
          intro v' w3 hown3 hgr3
          refine hK _ _ ?_
          clear hK
          obtain ⟨g', cap', rfl⟩ := own_form hown3 (by omega)
          have hk3 := ((hkd.below hb2 hltG).alloc (.cells (AN 257 (IN fun c => less (byN s) c p)) 151)).grown hgr3 (blk_ne_own (hkd.below hb2 hltG) (own_below3 hownd hb2) (by decide))
          have hc3 : w3.cell? ⟨G, 1, none⟩ = some v := hk3.cell 1
          have hf3 := hk3.free 1
          refine wpAny_take (i := 8) (v := .pointer (some ⟨G, 0, none⟩)) rfl (by kernel_rfl) (by kernel_rfl) (by kernel_rfl) (fun _ _ _ h => h) (Or.inl ⟨rfl, fun w => by go_simp⟩) ?_
          refine wpAny_take (i := 9) (v := .pointer (some ⟨G, 1, none⟩)) rfl (by kernel_rfl) (by kernel_rfl) (by kernel_rfl) (fun _ _ _ h => h) (Or.inl ⟨rfl, fun w => by go_simp⟩) ?_
          refine wpAny_ready (rs := [10]) (by kernel_rfl) (by simp) ?_
          refine AllReady.cons rfl (fun K hK => ?_) AllReady.nil
          go_simp
          refine hK _ _ ?_
          clear hK
          refine wpAny_done (by kernel_rfl) ?_ _
          go_wp2_with fail
          go_meet
          have hA3 : Arr w3 (G + 1) cf := Blk.grown ((Blk.below (show Blk wr.drew (G + 1) _ _ from hAd) hb2 hltA).alloc (.cells (AN 257 (IN fun c => less (byN s) c p)) 151)) hgr3 (blk_ne_own (Blk.below (show Blk wr.drew (G + 1) _ _ from hAd) hb2 hltA) (own_below3 hownd hb2) (by decide))
          have hownA := own_below3 (own_below3 hownd hb2) ((Below.refl w2.heap.size w2).alloc (Nat.le_refl _) (.cells (AN 257 (IN fun c => less (byN s) c p)) 151))
          have hb3 : Below G w w3 := ((hb.drew.trans (hb2.mono hGV)).alloc (Nat.le_trans hGV hb2.size) _).grown hgr3 (by have := hb2.size; simp; omega) (fun g hg => (hownA.lt g hg).1)
          exact ⟨rfl, ⟨_, hk3.set 1 _, by rw [tl, ← HP.out]; exact own_setOther hown3 _ _ (blk_ne_own hk3 hown3 (by decide))⟩, hA3.setOther (by show G + 1 ≠ G; omega) _, hb3.setCell (Nat.le_refl _) _⟩
        · refine step_calls (args := #[.pointer (some ⟨G + 1, 0, none⟩)]) rfl rfl enterTally (by simp [Act.eval, Act.put]) (tallyOf_any (byN s) cf p (G + 1) wr.drew (by omega) HT.out hAd) ?_
          rintro e w2 ⟨rfl, hb2⟩
          refine ⟨_, rfl, hK _ _ ?_⟩
          clear hK
          have hd1 : w2.cell? ⟨G, 1, none⟩ = some v := (hkd.below hb2 hltG).cell 1
          have hd2 : ∀ o, (w2.alloc o).cell? ⟨G, 1, none⟩ = some v := fun o => ((hkd.below hb2 hltG).alloc o).cell 1
          refine wpAny_ready (rs := [4, 6]) (by kernel_rfl) (by simp) ?_
          refine AllReady.cons rfl (fun K hK => ?_) (AllReady.cons rfl (fun K hK => ?_) AllReady.nil)
          · go_simp
            refine hK _ _ ?_
            clear hK
            refine wpAny_ready (rs := [6]) (by kernel_rfl) (by simp) ?_
            refine AllReady.cons rfl (fun K hK => ?_) AllReady.nil
            refine step_buildOne rfl 143 151 (.tmp 21) rfl (AN 257 (IN fun c => less (byN s) c p)) rfl i0 _ 257 Try.underlying143 hi hz0 HZ.out (by omega) (by omega) (AN_size _ _) ?_
            refine hK _ _ ?_
            clear hK
            refine wpAny_ready (rs := [7]) (by kernel_rfl) (by simp) ?_
            refine AllReady.cons rfl (fun K hK => ?_) AllReady.nil
            refine step_append_own rfl (.tmp 20) (.tmp 22) 143 rfl G 151 i0 (.agg (AN 257 fun _ => .int .i64 0)) 257 2056 Try.underlying143 hi hz0 HZ.out hz2 (AN_size _ _) (by decide) v q (tl (byN s) q) rfl (own_below3 (own_below3 hownd hb2) ((Below.refl _ _).alloc (Nat.le_refl _) _)) ⟨w2.heap.size, 0, none⟩ 1 1 (AN 257 (IN fun c => less (byN s) c p)).toList rfl (by simp [AN_size]) (cell_arr_new _ _ _) (AN_mem _ _ (fun _ => rfl)) (by unfold maxLen; omega) (by omega) (by have := hb2.size; simp; omega) ?_
            intro v' w3 hown3 hgr3
            refine hK _ _ ?_
            clear hK
            obtain ⟨g', cap', rfl⟩ := own_form hown3 (by omega)
            have hk3 := ((hkd.below hb2 hltG).alloc (.cells (AN 257 (IN fun c => less (byN s) c p)) 151)).grown hgr3 (blk_ne_own (hkd.below hb2 hltG) (own_below3 hownd hb2) (by decide))
            have hc3 : w3.cell? ⟨G, 1, none⟩ = some v := hk3.cell 1
            have hf3 := hk3.free 1
            refine wpAny_take (i := 8) (v := .pointer (some ⟨G, 0, none⟩)) rfl (by kernel_rfl) (by kernel_rfl) (by kernel_rfl) (fun _ _ _ h => h) (Or.inl ⟨rfl, fun w => by go_simp⟩) ?_
            refine wpAny_take (i := 9) (v := .pointer (some ⟨G, 1, none⟩)) rfl (by kernel_rfl) (by kernel_rfl) (by kernel_rfl) (fun _ _ _ h => h) (Or.inl ⟨rfl, fun w => by go_simp⟩) ?_
            refine wpAny_ready (rs := [10]) (by kernel_rfl) (by simp) ?_
            refine AllReady.cons rfl (fun K hK => ?_) AllReady.nil
            go_simp
            refine hK _ _ ?_
            clear hK
            refine wpAny_done (by kernel_rfl) ?_ _
            go_wp2_with fail
            go_meet
            have hA3 : Arr w3 (G + 1) cf := Blk.grown ((Blk.below (show Blk wr.drew (G + 1) _ _ from hAd) hb2 hltA).alloc (.cells (AN 257 (IN fun c => less (byN s) c p)) 151)) hgr3 (blk_ne_own (Blk.below (show Blk wr.drew (G + 1) _ _ from hAd) hb2 hltA) (own_below3 hownd hb2) (by decide))
            have hownA := own_below3 (own_below3 hownd hb2) ((Below.refl w2.heap.size w2).alloc (Nat.le_refl _) (.cells (AN 257 (IN fun c => less (byN s) c p)) 151))
            have hb3 : Below G w w3 := ((hb.drew.trans (hb2.mono hGV)).alloc (Nat.le_trans hGV hb2.size) _).grown hgr3 (by have := hb2.size; simp; omega) (fun g hg => (hownA.lt g hg).1)
            exact ⟨rfl, ⟨_, hk3.set 1 _, by rw [tl, ← HP.out]; exact own_setOther hown3 _ _ (blk_ne_own hk3 hown3 (by decide))⟩, hA3.setOther (by show G + 1 ≠ G; omega) _, hb3.setCell (Nat.le_refl _) _⟩
          · refine step_buildOne rfl 143 151 (.tmp 21) rfl (AN 257 (IN fun c => less (byN s) c p)) rfl i0 _ 257 Try.underlying143 hi hz0 HZ.out (by omega) (by omega) (AN_size _ _) ?_
            refine hK _ _ ?_
            clear hK
            refine wpAny_ready (rs := [4]) (by kernel_rfl) (by simp) ?_
            refine AllReady.cons rfl (fun K hK => ?_) AllReady.nil
            go_simp
            refine hK _ _ ?_
            clear hK
            refine wpAny_ready (rs := [7]) (by kernel_rfl) (by simp) ?_
            refine AllReady.cons rfl (fun K hK => ?_) AllReady.nil
            refine step_append_own rfl (.tmp 20) (.tmp 22) 143 rfl G 151 i0 (.agg (AN 257 fun _ => .int .i64 0)) 257 2056 Try.underlying143 hi hz0 HZ.out hz2 (AN_size _ _) (by decide) v q (tl (byN s) q) rfl (own_below3 (own_below3 hownd hb2) ((Below.refl _ _).alloc (Nat.le_refl _) _)) ⟨w2.heap.size, 0, none⟩ 1 1 (AN 257 (IN fun c => less (byN s) c p)).toList rfl (by simp [AN_size]) (cell_arr_new _ _ _) (AN_mem _ _ (fun _ => rfl)) (by unfold maxLen; omega) (by omega) (by have := hb2.size; simp; omega) ?_
            intro v' w3 hown3 hgr3
            refine hK _ _ ?_
            clear hK
            obtain ⟨g', cap', rfl⟩ := own_form hown3 (by omega)
            have hk3 := ((hkd.below hb2 hltG).alloc (.cells (AN 257 (IN fun c => less (byN s) c p)) 151)).grown hgr3 (blk_ne_own (hkd.below hb2 hltG) (own_below3 hownd hb2) (by decide))
            have hc3 : w3.cell? ⟨G, 1, none⟩ = some v := hk3.cell 1
            have hf3 := hk3.free 1
            refine wpAny_take (i := 8) (v := .pointer (some ⟨G, 0, none⟩)) rfl (by kernel_rfl) (by kernel_rfl) (by kernel_rfl) (fun _ _ _ h => h) (Or.inl ⟨rfl, fun w => by go_simp⟩) ?_
            refine wpAny_take (i := 9) (v := .pointer (some ⟨G, 1, none⟩)) rfl (by kernel_rfl) (by kernel_rfl) (by kernel_rfl) (fun _ _ _ h => h) (Or.inl ⟨rfl, fun w => by go_simp⟩) ?_
            refine wpAny_ready (rs := [10]) (by kernel_rfl) (by simp) ?_
            refine AllReady.cons rfl (fun K hK => ?_) AllReady.nil
            go_simp
            refine hK _ _ ?_
            clear hK
            refine wpAny_done (by kernel_rfl) ?_ _
            go_wp2_with fail
            go_meet
            have hA3 : Arr w3 (G + 1) cf := Blk.grown ((Blk.below (show Blk wr.drew (G + 1) _ _ from hAd) hb2 hltA).alloc (.cells (AN 257 (IN fun c => less (byN s) c p)) 151)) hgr3 (blk_ne_own (Blk.below (show Blk wr.drew (G + 1) _ _ from hAd) hb2 hltA) (own_below3 hownd hb2) (by decide))
            have hownA := own_below3 (own_below3 hownd hb2) ((Below.refl w2.heap.size w2).alloc (Nat.le_refl _) (.cells (AN 257 (IN fun c => less (byN s) c p)) 151))
            have hb3 : Below G w w3 := ((hb.drew.trans (hb2.mono hGV)).alloc (Nat.le_trans hGV hb2.size) _).grown hgr3 (by have := hb2.size; simp; omega) (fun g hg => (hownA.lt g hg).1)
            exact ⟨rfl, ⟨_, hk3.set 1 _, by rw [tl, ← HP.out]; exact own_setOther hown3 _ _ (blk_ne_own hk3 hown3 (by decide))⟩, hA3.setOther (by show G + 1 ≠ G; omega) _, hb3.setCell (Nat.le_refl _) _⟩
      case rest =>
        obtain ⟨rfl, ⟨v', hk', hown'⟩, hA', hb'⟩ := hcut
        clear hAd hkd hownd hk hown hb hA hltG hltA hGV hcv HT
        go_wp2_with fail
        go_loopw [6] (fun jv wx => ∃ i : Nat, p ≤ i ∧ i ≤ p + 64 ∧ i ≤ s.size ∧ jv = .int .i64 (i : Int) ∧ (∃ cf', Arr wx (G + 1) cf' ∧ Hid (∀ c, cf' c = cnt (byN s) c i)) ∧ Blk wx G 145 #[.string s, v'] ∧ wx.ownsRow G 151 257 v' (q + 1) (tl (byN s) (q + 1)) ∧ Below G w wx) (fun jv _ => s.size - (intOf jv).toNat)
        case atStart => exact ⟨p, Nat.le_refl _, by omega, hlt, rfl, ⟨cf, hA', fun c => by rw [HC.out c, show min p s.size = p from by omega]⟩, hk', hown', hb'⟩
        case round =>
          clear hA' hk' hown' hb'
          obtain ⟨i, hi1, hi2, hi3, rfl, ⟨cf', hA, HC'⟩, hk, hown, hb⟩ := hrel
          by_cases hlt2 : i < p + 64 ∧ i < s.size
          · obtain ⟨hl1, hl2⟩ := hlt2
            have hby := (s[i]).toNat_lt
            have hc1 := hA.cell hby
            have hfz := hA.free (s[i]).toNat
            have hle : cf' (s[i]).toNat ≤ 3000 := by rw [HC'.out]; exact Nat.le_trans (cnt_le _ _ _) (by omega)
            have HN : Hid (∀ c, upd cf' (s[i]).toNat (cf' (s[i]).toNat + 1) c = cnt (byN s) c (i + 1)) := by
              intro c
              by_cases e : c = (s[i]).toNat
              · rw [e, upd_at, HC'.out, ← byN_lt s i hl2, cnt_same]
              · rw [upd_ne _ _ _ e, HC'.out, cnt_other _ _ _ (by rw [byN_lt s i hl2]; exact fun h => e h.symm)]
            go_wp2
            go_roundw
            case rel => exact ⟨i + 1, by omega, by omega, by omega, by go_num, ⟨_, hA.set (s[i]).toNat (cf' (s[i]).toNat + 1), HN⟩, hk.setOther (by show G ≠ G + 1; omega) _, own_setOther hown _ _ (blk_ne_own (show Blk wr (G + 1) _ _ from hA) hown (by decide)), hb.setCell (by show G ≤ G + 1; omega) _⟩
            case measure => simp [intOf]; omega
          · have hie : i = min (p + 64) s.size := by omega
            have HC2 : Hid (∀ c, cf' c = cnt (byN s) c (min (p + 64) s.size)) := by intro c; rw [HC'.out c, hie]
            have HP2 : Hid (p + 64 = 64 * (q + 1)) := by show p + 64 = 64 * (q + 1); rw [HP.out]; omega
            have hlt3 : ¬ ((i : Int) < (p : Int) + 64 ∧ (i : Int) < (s.size : Int)) := by omega
            clear hie
            go_wp2
            go_roundw
            case rel => exact ⟨q + 1, p + 64, HP2, by omega, by go_num, ⟨cf', hA, HC2⟩, ⟨v', hk, hown⟩, hb⟩
            case measure => simp [intOf]; omega
    · have HQ : Hid (q = s.size / 64 + 1) := by show q = s.size / 64 + 1; have := HP.out; omega
      go_wp2
      go_ret
      rw [HG.out] at hown hb
      exact ⟨G, v, rfl, hk, by rw [← HQ.out]; exact hown, hb⟩
end Go.Proofs.Ytkebgnpifmcmaaa
