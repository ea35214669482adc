import Derived.Test.YtkebgnpifmcmaabGreatGL
import Derived.Test.YtkebgnpifmcmaabGreatGN
import Derived.Shelf.SortM.Plain
import Derived.Ground.SlgmProg
import Derived.Sort.OwnSortedInts
/- Places in a row, sorted. Plain mathematics. -/
namespace Go.Proofs.YtkebgnpifmcmaabGreat

theorem mem_filt (B : Nat → Bool) (m x : Nat) : x ∈ filt B m ↔ x < m ∧ B x = true := by
  induction m with
  | zero => simp [filt]
  | succ m ih =>
    cases h : B m with
    | true =>
      rw [filt_yes h, List.mem_append, ih, List.mem_singleton]
      constructor
      · rintro (⟨h1, h2⟩ | rfl)
        · exact ⟨by omega, h2⟩
        · exact ⟨by omega, h⟩
      · rintro ⟨h1, h2⟩
        by_cases e : x = m
        · exact .inr e
        · exact .inl ⟨by omega, h2⟩
    | false =>
      rw [filt_no h, ih]
      constructor
      · rintro ⟨h1, h2⟩; exact ⟨by omega, h2⟩
      · rintro ⟨h1, h2⟩
        refine ⟨?_, h2⟩
        by_cases e : x = m
        · subst e; rw [h] at h2; cases h2
        · omega
theorem filt_rising (B : Nat → Bool) (m : Nat) : (filt B m).Pairwise (· < ·) := by
  induction m with
  | zero => exact List.Pairwise.nil
  | succ m ih =>
    cases h : B m with
    | true =>
      rw [filt_yes h, List.pairwise_append]
      refine ⟨ih, List.pairwise_singleton _ _, fun a ha b hb => ?_⟩
      rw [List.mem_singleton] at hb
      subst hb
      exact ((mem_filt B b a).1 ha).1
    | false => rw [filt_no h]; exact ih

/-- The places of rows, as they come. -/
def rl (f : Nat → Nat) (lo : Nat) : Nat → List Nat
  | 0 => []
  | k + 1 => rl f lo k ++ [f (lo + k)]
theorem rl_length (f : Nat → Nat) (lo k : Nat) : (rl f lo k).length = k := by
  induction k with
  | zero => rfl
  | succ k ih => simp only [rl, List.length_append, ih, List.length_singleton]
theorem mem_rl (f : Nat → Nat) (lo k x : Nat) : x ∈ rl f lo k ↔ ∃ j, j < k ∧ f (lo + j) = x := by
  induction k with
  | zero => simp [rl]
  | succ k ih =>
    simp only [rl, List.mem_append, List.mem_singleton, ih]
    constructor
    · rintro (⟨j, h1, h2⟩ | h)
      · exact ⟨j, by omega, h2⟩
      · exact ⟨k, by omega, h.symm⟩
    · rintro ⟨j, h1, h2⟩
      by_cases e : j = k
      · subst e; exact .inr h2.symm
      · exact .inl ⟨j, by omega, h2⟩
theorem rl_nodup (f : Nat → Nat) (lo k : Nat) (hi : ∀ i j, i < k → j < k → f (lo + i) = f (lo + j) → i = j) : (rl f lo k).Nodup := by
  induction k with
  | zero => exact List.Pairwise.nil
  | succ k ih =>
    simp only [rl]
    rw [List.nodup_append]
    refine ⟨ih (fun i j h1 h2 => hi i j (by omega) (by omega)), by simp, fun a ha b hb => ?_⟩
    rw [List.mem_singleton] at hb
    subst hb
    obtain ⟨j, hj, rfl⟩ := (mem_rl f lo k a).1 ha
    intro e
    have := hi j k (by omega) (by omega) e
    omega

def asI (l : List Nat) : List Int := l.map (fun x : Nat => (x : Int))
theorem NL_asI (l : List Nat) : NL l = (asI l).map (Value.int .i64) := by simp [NL, asI]
theorem asI_length (l : List Nat) : (asI l).length = l.length := by simp [asI]

/-- The rows of a pattern, sorted, are its places. -/
theorem sorted_places {t : List UInt8} {f : Nat → Nat} (F : IsSA t f) (P : List UInt8) :
    (asI (rl f (LO t P) (HI t P - LO t P))).mergeSort (fun x y => decide (x ≤ y)) = asI (filt (stP t P) (t.length + 1)) := by
  have hhi := HI_le t P
  have hlo := LO_le t P
  have hperm : (rl f (LO t P) (HI t P - LO t P)).Perm (filt (stP t P) (t.length + 1)) := by
    refine (List.perm_ext_iff_of_nodup (rl_nodup f _ _ (fun i j h1 h2 e => ?_)) ?_).2 (fun x => ?_)
    · have := F.inj (show LO t P + i ≤ t.length by omega) (show LO t P + j ≤ t.length by omega) e
      omega
    · exact (filt_rising _ _).imp (fun h => Nat.ne_of_lt h)
    · rw [mem_rl, mem_filt]
      constructor
      · rintro ⟨j, hj, rfl⟩
        have hle := F.le (LO t P + j) (by omega)
        exact ⟨by omega, (row_in F P (LO t P + j) (by omega)).1 ⟨by omega, by omega⟩⟩
      · rintro ⟨hx, hs⟩
        obtain ⟨r, hr, rfl⟩ := F.surj (show x ≤ t.length by omega)
        have := (row_in F P r (by omega)).2 hs
        exact ⟨r - LO t P, by omega, by rw [show LO t P + (r - LO t P) = r from by omega]⟩
  have hp2 : (asI (rl f (LO t P) (HI t P - LO t P))).Perm (asI (filt (stP t P) (t.length + 1))) := hperm.map _
  refine List.Perm.eq_of_pairwise (le := fun x y : Int => decide (x ≤ y) = true) (fun a b _ _ h1 h2 => ?_) ?_ ?_ ((List.mergeSort_perm _ _).trans hp2)
  · simp only [decide_eq_true_eq] at h1 h2; omega
  · exact List.pairwise_mergeSort (fun a b c h1 h2 => by simp only [decide_eq_true_eq] at h1 h2 ⊢; omega) (fun a b => by simp only [Bool.or_eq_true, decide_eq_true_eq]; omega) _
  · unfold asI
    rw [List.pairwise_map]
    exact (filt_rising _ _).imp (fun h => by simp only [decide_eq_true_eq]; omega)
end Go.Proofs.YtkebgnpifmcmaabGreat

namespace Go.Proofs
open Go.Shelf
def Tryz.sortInts_ren : Go.Shelf.Ren := ⟨fun | 5 => 62 | 8 => 92 | 7 => 91 | 19 => 129 | 20 => 130 | 10 => 120 | 11 => 121 | 12 => 122 | 13 => 123 | 14 => 124 | 15 => 125 | 16 => 126 | 17 => 127 | 18 => 128 | 30 => 146 | 31 => 147 | 32 => 148 | 33 => 149 | 34 => 150 | 35 => 151 | 40 => 158 | n => n, fun | 23 => 32 | 25 => 3 | 3 => 3 | 32 => 135 | 22 => 32 | 0 => 0 | 44 => 175 | 46 => 92 | 4 => 4 | 36 => 168 | 35 => 167 | 41 => 136 | 5 => 5 | 9 => 9 | 53 => 186 | 57 => 190 | 63 => 202 | 64 => 62 | n => n, fun | n => n⟩
theorem Tryz.sortInts : Go.Proofs.SlLaysM.n5 Tryz.prog Tryz.sortInts_ren := {
  mixed := by kernel_rfl
  f5 := ⟨Tryz.f62.name, by decide, Tryz.func62.trans (congrArg some (by kernel_rfl))⟩
  f7 := ⟨Tryz.f91.name, by decide, Tryz.func91.trans (congrArg some (by kernel_rfl))⟩
  f8 := Tryz.func92.trans (congrArg some (by kernel_rfl))
  f10 := ⟨Tryz.f120.name, by decide, Tryz.func120.trans (congrArg some (by kernel_rfl))⟩
  f11 := ⟨Tryz.f121.name, by decide, Tryz.func121.trans (congrArg some (by kernel_rfl))⟩
  f12 := ⟨Tryz.f122.name, by decide, Tryz.func122.trans (congrArg some (by kernel_rfl))⟩
  f13 := ⟨Tryz.f123.name, by decide, Tryz.func123.trans (congrArg some (by kernel_rfl))⟩
  f14 := ⟨Tryz.f124.name, by decide, Tryz.func124.trans (congrArg some (by kernel_rfl))⟩
  f15 := ⟨Tryz.f125.name, by decide, Tryz.func125.trans (congrArg some (by kernel_rfl))⟩
  f16 := ⟨Tryz.f126.name, by decide, Tryz.func126.trans (congrArg some (by kernel_rfl))⟩
  f17 := ⟨Tryz.f127.name, by decide, Tryz.func127.trans (congrArg some (by kernel_rfl))⟩
  f18 := ⟨Tryz.f128.name, by decide, Tryz.func128.trans (congrArg some (by kernel_rfl))⟩
  f19 := Tryz.func129.trans (congrArg some (by kernel_rfl))
  f20 := Tryz.func130.trans (congrArg some (by kernel_rfl))
  f30 := ⟨Tryz.f146.name, by decide, Tryz.func146.trans (congrArg some (by kernel_rfl))⟩
  f31 := Tryz.func147.trans (congrArg some (by kernel_rfl))
  f32 := Tryz.func148.trans (congrArg some (by kernel_rfl))
  f33 := ⟨Tryz.f149.name, by decide, Tryz.func149.trans (congrArg some (by kernel_rfl))⟩
  f34 := ⟨Tryz.f150.name, by decide, Tryz.func150.trans (congrArg some (by kernel_rfl))⟩
  f35 := ⟨Tryz.f151.name, by decide, Tryz.func151.trans (congrArg some (by kernel_rfl))⟩
  f40 := ⟨Tryz.f158.name, by decide, Tryz.func158.trans (congrArg some (by kernel_rfl))⟩
  t0 := Tryz.underlying0
  a0 := Tryz.isAgg0
  z0 := Tryz.sizeOf0
  v0 := Tryz.zeroValue0
  t3 := Tryz.underlying3
  a3 := Tryz.isAgg3
  z3 := Tryz.sizeOf3
  v3 := Tryz.zeroValue3
  t4 := Tryz.underlying4
  a4 := Tryz.isAgg4
  z4 := Tryz.sizeOf4
  v4 := Tryz.zeroValue4
  t5 := Tryz.underlying5
  a5 := Tryz.isAgg5
  z5 := Tryz.sizeOf5
  v5 := Tryz.zeroValue5
  t9 := Tryz.underlying9
  a9 := Tryz.isAgg9
  z9 := Tryz.sizeOf9
  v9 := Tryz.zeroValue9
  t22 := Tryz.underlying32
  a22 := Tryz.isAgg32
  z22 := Tryz.sizeOf32
  v22 := Tryz.zeroValue32
  t23 := Tryz.underlying32
  a23 := Tryz.isAgg32
  z23 := Tryz.sizeOf32
  v23 := Tryz.zeroValue32
  t25 := Tryz.underlying3
  a25 := Tryz.isAgg3
  z25 := Tryz.sizeOf3
  v25 := Tryz.zeroValue3
  t32 := Tryz.underlying135
  a32 := Tryz.isAgg135
  z32 := Tryz.sizeOf135
  v32 := Tryz.zeroValue135
  t35 := Tryz.underlying167
  a35 := Tryz.isAgg167
  z35 := Tryz.sizeOf167
  v35 := Tryz.zeroValue167
  t36 := Tryz.underlying168
  a36 := Tryz.isAgg168
  z36 := Tryz.sizeOf168
  v36 := Tryz.zeroValue168
  t41 := Tryz.underlying136
  a41 := Tryz.isAgg136
  z41 := Tryz.sizeOf136
  v41 := Tryz.zeroValue136
  t44 := Tryz.underlying175
  a44 := Tryz.isAgg175
  z44 := Tryz.sizeOf175
  v44 := Tryz.zeroValue175
  t46 := Tryz.underlying92
  a46 := Tryz.isAgg92
  z46 := Tryz.sizeOf92
  v46 := Tryz.zeroValue92
  t53 := Tryz.underlying186
  a53 := Tryz.isAgg186
  z53 := Tryz.sizeOf186
  v53 := Tryz.zeroValue186
  t57 := Tryz.underlying190
  a57 := Tryz.isAgg190
  z57 := Tryz.sizeOf190
  v57 := Tryz.zeroValue190
  t63 := Tryz.underlying202
  a63 := Tryz.isAgg202
  z63 := Tryz.sizeOf202
  v63 := Tryz.zeroValue202
  t64 := Tryz.underlying62
  a64 := Tryz.isAgg62
  z64 := Tryz.sizeOf62
  v64 := Tryz.zeroValue62 }
end Go.Proofs
namespace Go.Proofs.YtkebgnpifmcmaabGreat
open Go.RowKit Go.Sort

theorem sort_own {w : World} {base g cap : Nat} {l : List Nat} (h : w.ownsRow base 3 1 (.slice (some ⟨g, 0, none⟩) l.length cap) l.length (NL l)) (hb : base ≤ g) (hl : l.length ≤ 3000) :
    Calls Tryz.prog 62 #[.slice (some ⟨g, 0, none⟩) l.length cap] w fun e w' => e = .returned (.tuple #[]) ∧ w'.ownsRow base 3 1 (.slice (some ⟨g, 0, none⟩) l.length cap) l.length (((asI l).mergeSort fun x y => decide (x ≤ y)).map (Value.int .i64)) ∧ w.grownBy w' (some g) := by
  rcases h.2 with ⟨h0, _⟩ | ⟨g', cap', cur, hv, hbg, hg, hnc, hcm, hcs, htake⟩
  · cases h0
  cases hv
  have hH : Holds (Value.int .i64) w g 0 (asI l).toArray := holds_of_blockI hg (by rw [asI_length, ← NL_asI]; simpa using htake)
  have hlt : g < w.heap.size := (Array.getElem?_eq_some_iff.1 hg).1
  have hc := AnyM.slices_Sort_int Tryz.sortInts g 0 cap (asI l) w hH hlt (by rw [asI_length]; omega)
  rw [asI_length] at hc
  refine hc.mono ?_
  rintro e w' ⟨rfl, n, os, rfl⟩
  refine ⟨rfl, ?_, grownBy_sortedI _⟩
  have hs := ownsRow_sortedI (base := base) (g := g) (cap := cap) (n := n) (e := 3) (os := os) (ss := asI l) (ts := (asI l).mergeSort fun x y => decide (x ≤ y)) (by rw [List.length_mergeSort]) hb hg (by rw [asI_length]; exact hnc) hcm hcs
  rw [asI_length] at hs
  exact hs
end Go.Proofs.YtkebgnpifmcmaabGreat

namespace Go.Proofs.YtkebgnpifmcmaabGreat
open Go.RowKit

theorem NL_map (l : List Nat) : (asI l).map (Value.int .i64) = NL l := (NL_asI l).symm

set_option maxRecDepth 10000 in
set_option maxHeartbeats 1000000 in
theorem places_in {w : World} {g : Nat} {t : List UInt8} {rate : Nat} {f f2 : Nat → Nat} (h : IxT w g t rate f f2) (P : List UInt8) :
    Calls Tryz.prog 38 #[.pointer (some ⟨g, 0, none⟩), .int .i64 (LO t P : Int), .int .i64 (HI t P : Int)] w fun e w' => ∃ v, e = .returned v ∧ OwnL w' w.heap.size v (filt (stP t P) (t.length + 1)) ∧ Below w.heap.size w w' := by
  obtain ⟨i0, hi, hz0, hz1, hz2⟩ := info_parts Tryz.info3
  have hn := h.2.2.1
  have hlo := LO_le t P
  have hhi := HI_le t P
  have HSP : Hid ((asI (rl f (LO t P) (HI t P - LO t P))).mergeSort (fun x y => decide (x ≤ y)) = asI (filt (stP t P) (t.length + 1))) := sorted_places h.1 P
  have HFL : Hid ((filt (stP t P) (t.length + 1)).length = HI t P - LO t P) := by
    show _ = _
    rw [filt_length, HI_eq, NS]; omega
  have HPL : Hid (∀ r w', r ≤ t.length → Below w.heap.size w w' → Calls Tryz.prog 63 #[.pointer (some ⟨g, 0, none⟩), .int .i64 (r : Int)] w' fun e w2 => e = .returned (.int .i64 (f r : Int)) ∧ Below w'.heap.size w' w2) := fun r w' hr hb => place_any (h.below hb) r hr
  have HFR : Hid (∀ r, r ≤ t.length → f r ≤ t.length) := fun r hr => h.1.le r hr
  clear h
  generalize LO t P = lo at *
  generalize HI t P = up at *
  obtain ⟨M, hM⟩ : ∃ M, M = up - lo := ⟨_, rfl⟩
  have hMI : (up : Int) - (lo : Int) = (M : Int) := by omega
  rw [← hM] at HSP HFL
  have hM1 : lo + M ≤ up := by omega
  have hM2 : up ≤ lo + M := by omega
  clear hM
  go_enter Tryz.func38, Tryz.ntmps38
  go_wp2_with (at_make; refine wpList_make_own _ rfl _ _ 32 rfl w.heap.size 3 i0 (.int .i64 0) 1 Tryz.underlying32 hi hz0 hz1 .i64 .i64 _ M rfl rfl (by omega) (by rw [hz2]; omega) (by unfold maxLen; omega) (by omega) ?_; intro w2 hown hgr)
  have hb2 : Below w.heap.size w w2 := (Below.refl _ _).grown hgr (Nat.le_refl _) (fun _ h => by cases h)
  clear hgr
  go_loopw [7, 8] (fun v i wr => ∃ k : Nat, k ≤ M ∧ i = .int .i64 ((lo + k : Nat) : Int) ∧ (∃ gv cv, v = .slice (some ⟨gv, 0, none⟩) k cv ∧ w.heap.size ≤ gv) ∧ wr.ownsRow w.heap.size 3 1 v k (NL (rl f lo k)) ∧ Below w.heap.size w wr) (fun _ i _ => up - (intOf i).toNat)
  case atStart => exact ⟨0, Nat.zero_le _, rfl, ⟨_, _, rfl, Nat.le_refl _⟩, hown, hb2⟩
  case round =>
    clear hown hb2
    obtain ⟨k, hk, rfl, ⟨gv, cv, rfl, hgv⟩, hown, hb⟩ := hrel
    by_cases hlt : k < M
    · have HC : Hid _ := HPL.out (lo + k) wr (by omega) hb
      have hfr := HFR.out (lo + k) (by omega)
      have d1 : ((lo + k : Nat) : Int) < (up : Int) := by omega
      have HRL : Hid (rl f lo (k + 1) = rl f lo k ++ [f (lo + k)]) := rfl
      clear HSP HFL HPL HFR
      go_wp2_with fail
      refine Calls.mono HC.out ?_
      clear HC
      rintro en w3 ⟨rfl, hb3⟩
      have hown3 := own_below hown hb3
      have hb4 := hb.trans (hb3.mono hb.size)
      have hsz := hb4.size
      clear hown hb hb3
      generalize f (lo + k) = FR at *
      go_wp2_with (at_builtin; refine wpList_append_own _ rfl (.tmp 19) (.tmp 23) 32 rfl w.heap.size 3 i0 (.int .i64 0) 1 8 Tryz.underlying32 hi hz0 hz1 hz2 rfl (by decide) (.slice (some ⟨gv, 0, none⟩) k cv) k _ rfl (hown3.alloc _) ⟨w3.heap.size, 0, none⟩ 1 1 [.int .i64 (FR : Int)] rfl rfl (cell_one_new _ _ _) (by simp; rfl) (by unfold maxLen; omega) (by omega) (by simp; omega) ?_; intro v' w4 hown4 hgr4 _)
      have hb5 : Below w.heap.size w w4 := (hb4.alloc hsz _).grown hgr4 (by simp; omega) (fun k hk => (hown3.lt k hk).1)
      rw [NL_snoc] at hown4
      have hsh : ∃ gv cv, v' = .slice (some ⟨gv, 0, none⟩) (k + 1) cv ∧ w.heap.size ≤ gv := by
        rcases hown4.2 with ⟨_, h0⟩ | ⟨g', cap', cur, hv, hbg, _⟩
        · omega
        · exact ⟨g', cap', hv, hbg⟩
      go_roundw
      case rel => exact ⟨k + 1, by omega, by go_num, hsh, by rw [HRL.out]; exact hown4, hb5⟩
      case measure => simp [intOf]; omega
    · have hkm : k = M := by omega
      subst hkm
      have hrl := rl_length f lo k
      have hown' : wr.ownsRow w.heap.size 3 1 (.slice (some ⟨gv, 0, none⟩) (rl f lo k).length cv) (rl f lo k).length (NL (rl f lo k)) := by rw [hrl]; exact hown
      have hso := sort_own hown' hgv (by rw [hrl]; omega)
      rw [HSP.out, NL_map, hrl] at hso
      have HSO : Hid _ := hso
      have d1 : ¬ ((lo + k : Nat) : Int) < (up : Int) := by omega
      clear hso hown' hrl HSP HPL HFR
      go_wp2_with fail
      refine Calls.mono HSO.out ?_
      clear HSO
      rintro en w3 ⟨rfl, hown3, hgr3⟩
      have hb5 : Below w.heap.size w w3 := hb.grown hgr3 hb.size (fun k hk => by cases hk; exact hgv)
      have HOW : Hid (OwnL w3 w.heap.size (.slice (some ⟨gv, 0, none⟩) k cv) (filt (stP t P) (t.length + 1))) := by
        show w3.ownsRow w.heap.size 3 1 (.slice (some ⟨gv, 0, none⟩) k cv) (filt (stP t P) (t.length + 1)).length (NL (filt (stP t P) (t.length + 1)))
        rw [HFL.out]; exact hown3
      clear hown hown3 hgr3 hb
      go_wp2
      go_ret
      exact ⟨_, rfl, HOW.out, hb5⟩
end Go.Proofs.YtkebgnpifmcmaabGreat
