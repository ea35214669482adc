import Derived.Test.YtkebgnpifmcmaaaXA
import Derived.Deep.CutRange
import Derived.Deep.RegionWith
import Derived.Deep.RegionHeld3
namespace Go.Proofs.Ytkebgnpifmcmaaa
open Go.RowKit

def IU (f : Nat → Nat) : Nat → Value := fun j => .int .u64 (f j : Int)
theorem IU_at (f : Nat → Nat) (j : Nat) : IU f j = .int .u64 (f j : Int) := rfl
theorem Row.setU {w : World} {g : Nat} {e : TypeId} {n : Nat} {f : Nat → Nat} (h : Row w g e n (IU f)) (j x : Nat) : Row (w.setCell ⟨g, j, none⟩ (.int .u64 (x : Int))) g e n (IU (upd f j x)) := by
  have : updV (IU f) j (.int .u64 (x : Int)) = IU (upd f j x) := by funext i; simp only [updV, IU, upd]; split <;> rfl
  rw [← this]; exact h.set j _
theorem infoBR : (Try.prog.info? 73).map (·.size) = some 3 := by kernel_rfl
theorem Try.infoU64 : (Try.prog.info? 142).map (fun i => (i.zero, i.size, i.bytes)) = some (some (.int .u64 0), 1, 8) := by kernel_rfl

theorem Row.ofMade {w : World} {g : Nat} {e : TypeId} {m : Nat} {z : Value} (h : w.heap[g]? = some (.cells (madeCells #[z] m) e (0, 0))) : Row w g e m (fun _ => z) := by
  refine ⟨_, h, by simp [madeCells], fun j hj => ?_⟩
  simp [madeCells, hj, Nat.mod_one]
theorem alloc3 (W : World) (X Y Z : Obj) {s : Nat} (hs : W.heap.size = s) : (((W.alloc X).alloc Y).alloc Z).drew.heap[s]? = some X ∧ (((W.alloc X).alloc Y).alloc Z).drew.heap[s + 1]? = some Y ∧ (((W.alloc X).alloc Y).alloc Z).drew.heap[s + 1 + 1]? = some Z ∧ Below s W (((W.alloc X).alloc Y).alloc Z).drew := by
  subst hs
  refine ⟨?_, ?_, ?_, ?_⟩
  · rw [show ∀ V : World, V.drew.heap = V.heap from fun _ => rfl, heap_alloc_old _ _ (h := by simp; omega), heap_alloc_old _ _ (h := by simp), heap_alloc_new]
  · have h := heap_alloc_new (W.alloc X) Y
    rw [show (W.alloc X).heap.size = W.heap.size + 1 from by simp] at h
    rw [show ∀ V : World, V.drew.heap = V.heap from fun _ => rfl, heap_alloc_old _ _ (h := by simp), h]
  · have h := heap_alloc_new ((W.alloc X).alloc Y) Z
    rw [show ((W.alloc X).alloc Y).heap.size = W.heap.size + 1 + 1 from by simp] at h
    exact h
  · exact ((((Below.refl _ _).alloc (Nat.le_refl _) _).alloc (by simp) _).alloc (by simp; omega) _).drew

/-- The first i of them alone. -/
def ct (f : Nat → Bool) (i : Nat) (j : Nat) : Bool := decide (j < i) && f j
theorem ct_lt {f : Nat → Bool} {i j : Nat} (h : j < i) : ct f i j = f j := by simp [ct, h]
theorem ct_ge {f : Nat → Bool} {i j : Nat} (h : ¬ j < i) : ct f i j = false := by simp [ct, h]
theorem ct_next {f : Nat → Bool} {i j : Nat} (h : j ≠ i) : ct f (i + 1) j = ct f i j := by
  by_cases h1 : j < i
  · rw [ct_lt h1, ct_lt (by omega)]
  · rw [ct_ge h1, ct_ge (by omega)]
/-- The bits of the words. -/
def Bits (W : Nat → Nat) (m : Nat) (F : Nat → Bool) : Prop := ∀ k, k < m → W k < 2 ^ 64 ∧ ∀ j, j < 64 → (W k).testBit j = F (64 * k + j)
theorem Bits.congr {W : Nat → Nat} {m : Nat} {F G : Nat → Bool} (h : Bits W m F) (hg : ∀ i, F i = G i) : Bits W m G := fun k hk => ⟨(h k hk).1, fun j hj => by rw [(h k hk).2 j hj, hg]⟩
theorem Bits.zero (m : Nat) (f : Nat → Bool) : Bits (fun _ => 0) m (ct f 0) := fun k _ => ⟨Nat.two_pow_pos 64, fun j _ => by rw [ct_ge (Nat.not_lt_zero _), Nat.zero_testBit]⟩
theorem Bits.step {W : Nat → Nat} {m i : Nat} {f : Nat → Bool} (h : Bits W m (ct f i)) (hf : f i = true) : Bits (upd W (i / 64) (W (i / 64) ||| 2 ^ (i % 64))) m (ct f (i + 1)) := by
  intro k hk
  have hh := h k hk
  by_cases e : k = i / 64
  · subst e
    rw [upd_at]
    refine ⟨Nat.or_lt_two_pow hh.1 (Nat.pow_lt_pow_right (by decide) (Nat.mod_lt _ (by decide))), fun j hj => ?_⟩
    rw [Nat.testBit_or, hh.2 j hj, Nat.testBit_two_pow]
    by_cases e2 : i % 64 = j
    · have : 64 * (i / 64) + j = i := by omega
      rw [this, ct_lt (Nat.lt_succ_self i), hf, decide_eq_true e2, Bool.or_true]
    · rw [decide_eq_false e2, Bool.or_false, ct_next (by omega)]
  · rw [upd_ne _ _ _ e]
    exact ⟨hh.1, fun j hj => by rw [hh.2 j hj, ct_next (by omega)]⟩
theorem Bits.skip {W : Nat → Nat} {m i : Nat} {f : Nat → Bool} (h : Bits W m (ct f i)) (hf : f i = false) : Bits W m (ct f (i + 1)) :=
  h.congr fun j => by
    by_cases e : j = i
    · subst e; rw [ct_lt (Nat.lt_succ_self j), hf, ct_ge (Nat.lt_irrefl j)]
    · rw [ct_next e]

set_option maxRecDepth 10000 in
set_option maxHeartbeats 4000000 in
theorem bitOf_any (n K : Nat) (caps : Array Value) (f : Nat → Bool) (w : World) (hn : n ≤ 2001) (hin : ∀ args w, (callFunc K args).run Try.prog w = .ok (.enter K args) w)
    (hcall : ∀ i, i < n → ∀ w1, Below w.heap.size w w1 → Calls Try.prog K (#[.int .i64 (i : Int)] ++ caps) w1 fun e w' => e = .returned (.bool (f i)) ∧ Below w1.heap.size w1 w') :
    Calls Try.prog 97 #[.int .i64 (n : Int), .func (.func K) #[] caps] w fun e w' => ∃ gw ga, e = .returned (.agg #[.int .i64 (n : Int), .slice (some ⟨gw, 0, none⟩) (n / 64 + 1) (n / 64 + 1), .slice (some ⟨ga, 0, none⟩) (n / 64 + 1) (n / 64 + 1)]) ∧ (∃ W, Row w' gw 142 (n / 64 + 1) (IU W) ∧ Bits W (n / 64 + 1) (ct f n)) ∧ Row w' ga 3 (n / 64 + 1) (IN fun k => cntB (ct f n) (64 * k)) ∧ w.heap.size ≤ gw ∧ w.heap.size ≤ ga ∧ Below w.heap.size w w' := by
  obtain ⟨i0, hi, hz0, hz1, hz2⟩ := info_parts Try.info3
  obtain ⟨i1, hj, hy0, hy1, hy2⟩ := info_parts Try.infoU64
  have hk0 := Blk.new w 73 #[.int .i64 0, .slice none 0 0, .slice none 0 0]
  have hb0 : Below w.heap.size w (w.alloc (.cells #[.int .i64 0, .slice none 0 0, .slice none 0 0] 73)) := (Below.refl _ _).alloc (Nat.le_refl _) _
  have hs0 : (w.alloc (.cells #[.int .i64 0, .slice none 0 0, .slice none 0 0] 73)).heap.size = w.heap.size + 1 := by simp
  go_enter Try.func97, Try.ntmps97
  go_upto_region 1 with fail
  generalize w.alloc (.cells #[.int .i64 0, .slice none 0 0, .slice none 0 0] 73) = W0 at *
  go_cut [5] from 8 to 17 (fun p wx => ∃ gw ga gs, p = .pointer (some ⟨gs, 0, none⟩) ∧ Blk wx gs 73 #[.int .i64 (n : Int), .slice (some ⟨gw, 0, none⟩) (n / 64 + 1) (n / 64 + 1), .slice (some ⟨ga, 0, none⟩) (n / 64 + 1) (n / 64 + 1)] ∧ Row wx gw 142 (n / 64 + 1) (fun _ => .int .u64 0) ∧ Row wx ga 3 (n / 64 + 1) (fun _ => .int .i64 0) ∧ w.heap.size < gw ∧ w.heap.size < ga ∧ w.heap.size < gs ∧ Blk wx w.heap.size 73 #[.int .i64 0, .slice none 0 0, .slice none 0 0] ∧ Below w.heap.size w wx)
  case first =>
    have hmA : ∀ W, (Instr.makeSlice 71 (.int .i64 (IntKind.i64.wrap (IntKind.i64.wrap ((n : Int) / 64) + 1))) (.int .i64 (IntKind.i64.wrap (IntKind.i64.wrap ((n : Int) / 64) + 1)))).run Try.prog W = .ok (.slice (some ⟨W.heap.size, 0, none⟩) (n / 64 + 1) (n / 64 + 1)) (W.alloc (.cells (madeCells #[.int .u64 0] (n / 64 + 1)) 142)) := by
      intro W
      have e1 : IntKind.i64.wrap (IntKind.i64.wrap ((n : Int) / 64) + 1) = ((n / 64 + 1 : Nat) : Int) := by simp only [IntKind.wrap_i64]; omega
      rw [e1, run_make W 71 142 i1 _ Try.underlying71 hj hy0 .i64 .i64 _ _ (by omega) (by omega) (by rw [hy2]; omega) (by omega), hy1]
      simp only [Value.cells, Int.toNat_natCast, Nat.mul_one]
    have hmB : ∀ W, (Instr.makeSlice 22 (.int .i64 (IntKind.i64.wrap (IntKind.i64.wrap ((n : Int) / 64) + 1))) (.int .i64 (IntKind.i64.wrap (IntKind.i64.wrap ((n : Int) / 64) + 1)))).run Try.prog W = .ok (.slice (some ⟨W.heap.size, 0, none⟩) (n / 64 + 1) (n / 64 + 1)) (W.alloc (.cells (madeCells #[.int .i64 0] (n / 64 + 1)) 3)) := by
      intro W
      have e1 : IntKind.i64.wrap (IntKind.i64.wrap ((n : Int) / 64) + 1) = ((n / 64 + 1 : Nat) : Int) := by simp only [IntKind.wrap_i64]; omega
      rw [e1, run_make W 22 3 i0 _ Try.underlying22 hi hz0 .i64 .i64 _ _ (by omega) (by omega) (by rw [hz2]; omega) (by omega), hz1]
      simp only [Value.cells, Int.toNat_natCast, Nat.mul_one]
    go_region
    all_goals (go_wp2_with fail)
    all_goals go_meet
    all_goals first
      | exact ⟨w.heap.size + 1, w.heap.size + 1 + 1, w.heap.size + 1 + 1 + 1, rfl, (alloc3 W0 _ _ _ hs0).2.2.1, Row.ofMade (alloc3 W0 _ _ _ hs0).1, Row.ofMade (alloc3 W0 _ _ _ hs0).2.1, by omega, by omega, by omega, hk0.below (alloc3 W0 _ _ _ hs0).2.2.2 (Nat.lt_succ_self _), hb0.trans ((alloc3 W0 _ _ _ hs0).2.2.2.mono (Nat.le_succ _))⟩
      | exact ⟨w.heap.size + 1, w.heap.size + 1 + 1 + 1, w.heap.size + 1 + 1, rfl, (alloc3 W0 _ _ _ hs0).2.1, Row.ofMade (alloc3 W0 _ _ _ hs0).1, Row.ofMade (alloc3 W0 _ _ _ hs0).2.2.1, by omega, by omega, by omega, hk0.below (alloc3 W0 _ _ _ hs0).2.2.2 (Nat.lt_succ_self _), hb0.trans ((alloc3 W0 _ _ _ hs0).2.2.2.mono (Nat.le_succ _))⟩
      | exact ⟨w.heap.size + 1 + 1, w.heap.size + 1, w.heap.size + 1 + 1 + 1, rfl, (alloc3 W0 _ _ _ hs0).2.2.1, Row.ofMade (alloc3 W0 _ _ _ hs0).2.1, Row.ofMade (alloc3 W0 _ _ _ hs0).1, by omega, by omega, by omega, hk0.below (alloc3 W0 _ _ _ hs0).2.2.2 (Nat.lt_succ_self _), hb0.trans ((alloc3 W0 _ _ _ hs0).2.2.2.mono (Nat.le_succ _))⟩
      | exact ⟨w.heap.size + 1 + 1, w.heap.size + 1 + 1 + 1, w.heap.size + 1, rfl, (alloc3 W0 _ _ _ hs0).1, Row.ofMade (alloc3 W0 _ _ _ hs0).2.1, Row.ofMade (alloc3 W0 _ _ _ hs0).2.2.1, by omega, by omega, by omega, hk0.below (alloc3 W0 _ _ _ hs0).2.2.2 (Nat.lt_succ_self _), hb0.trans ((alloc3 W0 _ _ _ hs0).2.2.2.mono (Nat.le_succ _))⟩
      | exact ⟨w.heap.size + 1 + 1 + 1, w.heap.size + 1, w.heap.size + 1 + 1, rfl, (alloc3 W0 _ _ _ hs0).2.1, Row.ofMade (alloc3 W0 _ _ _ hs0).2.2.1, Row.ofMade (alloc3 W0 _ _ _ hs0).1, by omega, by omega, by omega, hk0.below (alloc3 W0 _ _ _ hs0).2.2.2 (Nat.lt_succ_self _), hb0.trans ((alloc3 W0 _ _ _ hs0).2.2.2.mono (Nat.le_succ _))⟩
      | exact ⟨w.heap.size + 1 + 1 + 1, w.heap.size + 1 + 1, w.heap.size + 1, rfl, (alloc3 W0 _ _ _ hs0).1, Row.ofMade (alloc3 W0 _ _ _ hs0).2.2.1, Row.ofMade (alloc3 W0 _ _ _ hs0).2.1, by omega, by omega, by omega, hk0.below (alloc3 W0 _ _ _ hs0).2.2.2 (Nat.lt_succ_self _), hb0.trans ((alloc3 W0 _ _ _ hs0).2.2.2.mono (Nat.le_succ _))⟩
  case rest =>
    obtain ⟨gw, ga, gs, rfl, hbs, hrw, hra, hgw, hga, hgs, hb4, hbel⟩ := hcut
    have hgwa : gw ≠ ga := fun e => by
      subst e
      obtain ⟨c1, h1, _⟩ := hrw
      obtain ⟨c2, h2, _⟩ := hra
      rw [h1] at h2; simp at h2
    have hgws : gw ≠ gs := fun e => by
      subst e
      obtain ⟨c1, h1, _⟩ := hrw
      unfold Blk at hbs
      rw [h1] at hbs; simp at hbs
    have hgas : ga ≠ gs := fun e => by
      subst e
      obtain ⟨c1, h1, _⟩ := hra
      unfold Blk at hbs
      rw [h1] at hbs; simp at hbs
    clear hk0 hb0 hs0
    go_wp2_with fail
    go_loopw [19, 6] (fun iv _ wr => ∃ i : Nat, i ≤ n ∧ iv = .int .i64 (i : Int) ∧ (∃ W, Row wr gw 142 (n / 64 + 1) (IU W) ∧ Hid (Bits W (n / 64 + 1) (ct f i))) ∧ Blk wr gs 73 #[.int .i64 (n : Int), .slice (some ⟨gw, 0, none⟩) (n / 64 + 1) (n / 64 + 1), .slice (some ⟨ga, 0, none⟩) (n / 64 + 1) (n / 64 + 1)] ∧ Row wr ga 3 (n / 64 + 1) (fun _ => .int .i64 0) ∧ Blk wr w.heap.size 73 #[.int .i64 0, .slice none 0 0, .slice none 0 0] ∧ Below w.heap.size w wr) (fun iv _ _ => n - (intOf iv).toNat)
    case atStart => exact ⟨0, Nat.zero_le _, rfl, ⟨fun _ => 0, hrw, Bits.zero _ _⟩, hbs, hra, hb4, hbel⟩
    case round =>
      clear hrw hbs hra hb4 hbel
      obtain ⟨i, hi1, rfl, ⟨W, hrw, HB⟩, hbs, hra, hb4, hbel⟩ := hrel
      by_cases hlt : i < n
      · go_wp2_with fail
        refine (hcall i hlt wr hbel).mono ?_
        rintro e w2 ⟨rfl, hb2⟩
        have hrw2 := hrw.below hb2 hrw.lt
        have hbs2 := hbs.below hb2 hbs.lt
        have hra2 := hra.below hb2 hra.lt
        have hb42 := hb4.below hb2 hb4.lt
        have hbel2 := hbel.trans (hb2.mono hbel.size)
        clear hrw hbs hra hb4 hbel hb2
        by_cases hf : f i = true
        · have HS : Hid _ := HB.out.step hf
          have hWl := (HB.out (i / 64) (by omega)).1
          have hc1 : w2.cell? ⟨gs, 1, none⟩ = some (.slice (some ⟨gw, 0, none⟩) (n / 64 + 1) (n / 64 + 1)) := hbs2.cell 1
          have hc2 := hrw2.cell (show i / 64 < n / 64 + 1 by omega)
          rw [IU_at] at hc2
          have hfz := hrw2.free (i / 64)
          rw [hf]
          have HV : Hid (bits BinOp.or IntKind.u64 (W (i / 64) : Int) (IntKind.u64.wrap (2 ^ (i % 64))) = ((W (i / 64) ||| 2 ^ (i % 64) : Nat) : Int)) := by
            show bits BinOp.or IntKind.u64 (W (i / 64) : Int) (IntKind.u64.wrap (2 ^ (i % 64))) = _
            have hp : 2 ^ (i % 64) < 2 ^ 64 := Nat.pow_lt_pow_right (by decide) (Nat.mod_lt _ (by decide))
            have e1 : IntKind.u64.wrap (2 ^ (i % 64)) = ((2 ^ (i % 64) : Nat) : Int) := by
              have e2 : (2 : Int) ^ (i % 64) = ((2 ^ (i % 64) : Nat) : Int) := by simp
              rw [e2]
              generalize 2 ^ (i % 64) = P at *
              simp [IntKind.wrap, IntKind.bits, IntKind.signed]; omega
            rw [e1, u64_or_nat _ _ (by simpa using hWl) (by simpa using hp)]
          go_wp2_with fail
          go_region
          all_goals go_wp2
          all_goals go_roundw
          case rel =>
            rw [HV.out]
            exact ⟨i + 1, by omega, by go_num, ⟨_, (hrw2.setU (i / 64) (W (i / 64) ||| 2 ^ (i % 64))).drew, HS⟩, (hbs2.setOther (by show gs ≠ gw; omega) _), (hra2.setOther (by show ga ≠ gw; omega) _).drew, (hb42.setOther (by show w.heap.size ≠ gw; omega) _), (hbel2.setCell (by show w.heap.size ≤ gw; omega) _).drew⟩
          case measure => simp [intOf]; omega
        · have hf' : f i = false := by simpa using hf
          have HS : Hid _ := HB.out.skip hf'
          rw [hf']
          go_wp2
          go_roundw
          case rel => exact ⟨i + 1, by omega, by go_num, ⟨_, hrw2, HS⟩, hbs2, hra2, hb42, hbel2⟩
          case measure => simp [intOf]; omega
      · have hin : i = n := by omega
        subst hin
        go_wp2_with fail
        go_loopw [7] (fun kv wr => ∃ k : Nat, k ≤ i / 64 ∧ kv = .int .i64 ((k : Int) + 1) ∧ Row wr gw 142 (i / 64 + 1) (IU W) ∧ Blk wr gs 73 #[.int .i64 (i : Int), .slice (some ⟨gw, 0, none⟩) (i / 64 + 1) (i / 64 + 1), .slice (some ⟨ga, 0, none⟩) (i / 64 + 1) (i / 64 + 1)] ∧ (∃ A, Row wr ga 3 (i / 64 + 1) (IN A) ∧ Hid (∀ j, j < k + 1 → A j = cntB (ct f i) (64 * j))) ∧ Blk wr w.heap.size 73 #[.int .i64 0, .slice none 0 0, .slice none 0 0] ∧ Below w.heap.size w wr) (fun kv _ => i / 64 + 1 - (intOf kv).toNat)
        case atStart => exact ⟨0, by omega, by go_num, hrw, hbs, ⟨fun _ => 0, hra, fun j hj => by rw [show j = 0 from by omega]; rfl⟩, hb4, hbel⟩
        case round =>
          clear hrw hbs hra hb4 hbel
          obtain ⟨k, hk2, rfl, hrw, hbs, ⟨A, hra, HA⟩, hb4, hbel⟩ := hrel
          have hc1 : wr.cell? ⟨gs, 1, none⟩ = some (.slice (some ⟨gw, 0, none⟩) (i / 64 + 1) (i / 64 + 1)) := hbs.cell 1
          have hc2 : wr.cell? ⟨gs, 2, none⟩ = some (.slice (some ⟨ga, 0, none⟩) (i / 64 + 1) (i / 64 + 1)) := hbs.cell 2
          by_cases hlt2 : k < i / 64
          · have hc3 := hrw.cell (show k < i / 64 + 1 by omega)
            rw [IU_at] at hc3
            have hc4 := hra.cell (show k < i / 64 + 1 by omega)
            rw [IN_at] at hc4
            have hc5 := hra.cell (show k + 1 < i / 64 + 1 by omega)
            have hfz := hra.free (k + 1)
            have hWl := (HB.out k (by omega)).1
            have HN : Hid (A k + cntB (fun b => (W k).testBit b) 64 = cntB (ct f i) (64 * (k + 1))) := by
              show A k + cntB (fun b => (W k).testBit b) 64 = _
              rw [HA.out _ (by omega), show 64 * (k + 1) = 64 * k + 64 from by omega, cntB_add, cntB_congr (fun b hb => (HB.out k (by omega)).2 b hb)]
            have hle := cntB_le (fun b => (W k).testBit b) 64
            have hle2 : A k ≤ 3000 := by rw [HA.out _ (by omega)]; have := cntB_le (ct f i) (64 * k); omega
            generalize hC : cntB (fun b => (W k).testBit b) 64 = C at *
            have HC : Hid (cntB (fun b => (W k).testBit b) 64 = C) := hC
            clear hC
            have hx1 : ∀ V, (wr.setCell ⟨ga, k + 1, none⟩ V).cell? ⟨gw, k, none⟩ = some (.int .u64 (W k : Int)) := fun V => by rw [World.cell?_setCell_other _ _ _ _ (by simp)]; exact hc3
            have hx2 : ∀ V, (wr.setCell ⟨ga, k + 1, none⟩ V).cell? ⟨ga, k, none⟩ = some (.int .i64 (A k : Int)) := fun V => by rw [World.cell?_setCell_other _ _ _ _ (by simp)]; exact hc4
            have hq1 : (0 : Int) ≤ (k : Int) := by omega
            have hq2 : (k : Int) < (i : Int) / 64 + 1 := by omega
            have hq3 : (k : Int) < (i : Int) / 64 := by omega
            have hq4 : (0 : Int) ≤ (k : Int) + 1 := by omega
            have hq5 : IntKind.i64.wrap ((A k : Int) + (C : Int)) = (A k : Int) + (C : Int) := by rw [IntKind.wrap_i64]; omega
            have hw1 : IntKind.i64.wrap ((k : Int) + 1 - 1) = (k : Int) := by rw [IntKind.wrap_i64]; omega
            have hw2 : IntKind.i64.wrap (k : Int) = (k : Int) := by rw [IntKind.wrap_i64]; omega
            go_wp2_with fail
            go_region_held3 (fun w' => w'.cell? ⟨gs, 1, none⟩ = some (.slice (some ⟨gw, 0, none⟩) (i / 64 + 1) (i / 64 + 1)) ∧ w'.cell? ⟨gs, 2, none⟩ = some (.slice (some ⟨ga, 0, none⟩) (i / 64 + 1) (i / 64 + 1)) ∧ w'.cell? ⟨gw, k, none⟩ = some (.int .u64 (W k : Int)) ∧ w'.cell? ⟨ga, k, none⟩ = some (.int .i64 (A k : Int))) (first | go_keep | (simp [*, World.cell?_setCell_other])) (first | (go_at_call 104; refine (onesCount_any _ _ hWl).mono ?_; rintro e w3 ⟨rfl, rfl⟩; rw [HC.out]))
            all_goals go_wp2
            all_goals go_roundw
            case rel =>
              refine ⟨k + 1, by omega, by go_num, hrw.setOther (by show gw ≠ ga; omega) _, hbs.setOther (by show gs ≠ ga; omega) _, ⟨_, (hra.setN (k + 1) (A k + C)).drew, ?_⟩, hb4.setOther (by show w.heap.size ≠ ga; omega) _, (hbel.setCell (by show w.heap.size ≤ ga; omega) _).drew⟩
              exact upd_next HA.out HN.out
            case measure => simp [intOf]; omega
          · have hki : k = i / 64 := by omega
            subst hki
            have hd0 : wr.cell? ⟨gs, 0, none⟩ = some (.int .i64 (i : Int)) := hbs.cell 0
            have hf0 : wr.cell? ⟨w.heap.size, 0, none⟩ = some (.int .i64 0) := hb4.cell 0
            have hf1 : wr.cell? ⟨w.heap.size, 1, none⟩ = some (.slice none 0 0) := hb4.cell 1
            have hf2 : wr.cell? ⟨w.heap.size, 2, none⟩ = some (.slice none 0 0) := hb4.cell 2
            have hz0 := hb4.free 0
            have hz1 := hb4.free 1
            have hz2 := hb4.free 2
            go_wp2
            exact bodyPost_ret (v := .agg #[.int .i64 (i : Int), .slice (some ⟨gw, 0, none⟩) (i / 64 + 1) (i / 64 + 1), .slice (some ⟨ga, 0, none⟩) (i / 64 + 1) (i / 64 + 1)]) (results_cell_row (P := Try.prog) rfl _ _ w.heap.size 73 _ (0, 0) _ rfl (((hb4.set 0 _).set 1 _).set 2 _) Try.underlying73 rfl infoBR) rfl
              ⟨gw, ga, rfl, ⟨W, ((hrw.setOther (by show gw ≠ w.heap.size; omega) _).setOther (by show gw ≠ w.heap.size; omega) _).setOther (by show gw ≠ w.heap.size; omega) _, HB.out⟩,
                ((((hra.setOther (by show ga ≠ w.heap.size; omega) _).setOther (by show ga ≠ w.heap.size; omega) _).setOther (by show ga ≠ w.heap.size; omega) _)).congr (fun j hj => by simp only [IN, HA.out j hj]), by omega, by omega, ((hbel.setCell (Nat.le_refl _) _).setCell (Nat.le_refl _) _).setCell (Nat.le_refl _) _⟩
end Go.Proofs.Ytkebgnpifmcmaaa
