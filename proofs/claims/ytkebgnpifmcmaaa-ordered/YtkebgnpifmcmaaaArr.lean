import Derived.Test.YtkebgnpifmcmaaaWH
import Derived.Laws.Tables
import Derived.Laws.Rows
namespace Go.Proofs.Ytkebgnpifmcmaaa
open Go.RowKit

/-- An array of 256 numbers, by a function. -/
def A256 (f : Nat → Nat) : Array Value := (Array.range 256).map (IN f)
theorem A256_size (f : Nat → Nat) : (A256 f).size = 256 := by simp [A256]
theorem A256_get (f : Nat → Nat) (j : Nat) (h : j < 256) : (A256 f)[j]? = some (.int .i64 (f j : Int)) := by simp [A256, h, IN]
theorem A256_set (f : Nat → Nat) (j x : Nat) : (A256 f).setIfInBounds j (.int .i64 (x : Int)) = A256 (upd f j x) := by
  apply Array.ext_getElem?
  intro i
  rw [Array.getElem?_setIfInBounds]
  by_cases e : j = i
  · subst e
    rw [if_pos rfl, A256_size]
    by_cases h : j < 256
    · rw [if_pos h, A256_get _ _ h, upd_at]
    · rw [if_neg h]; symm; rw [Array.getElem?_eq_none_iff, A256_size]; omega
  · rw [if_neg e]
    by_cases h : i < 256
    · rw [A256_get _ _ h, A256_get _ _ h, upd_ne _ _ _ (fun h => e h.symm)]
    · have h1 : (A256 f)[i]? = none := by rw [Array.getElem?_eq_none_iff, A256_size]; omega
      have h2 : (A256 (upd f j x))[i]? = none := by rw [Array.getElem?_eq_none_iff, A256_size]; omega
      rw [h1, h2]
theorem A256_one (f : Nat → Nat) : (A256 f).all (·.oneCell') = true := by
  rw [Array.all_eq_true_iff_forall_mem]
  intro v hv
  simp only [A256, Array.mem_map] at hv
  obtain ⟨j, _, rfl⟩ := hv
  rfl

def Arr (w : World) (g : Nat) (f : Nat → Nat) : Prop := w.heap[g]? = some (.cells (A256 f) 37 (0, 0))
theorem Arr.lt {w : World} {g : Nat} {f : Nat → Nat} (h : Arr w g f) : g < w.heap.size := (Array.getElem?_eq_some_iff.1 h).1
theorem Arr.cell {w : World} {g : Nat} {f : Nat → Nat} (h : Arr w g f) {j : Nat} (hj : j < 256) : w.cell? ⟨g, j, none⟩ = some (.int .i64 (f j : Int)) := by
  rw [cell_of_row w g j _ _ _ h, A256_get f j hj]
theorem Arr.free {w : World} {g : Nat} {f : Nat → Nat} (h : Arr w g f) (j : Nat) : w.frozen? ⟨g, j, none⟩ = false := frozen_of_row w g j _ _ h
theorem Arr.set {w : World} {g : Nat} {f : Nat → Nat} (h : Arr w g f) (j x : Nat) : Arr (w.setCell ⟨g, j, none⟩ (.int .i64 (x : Int))) g (upd f j x) := by
  unfold Arr; rw [heap_setCell_same w g j _ _ _ h, A256_set]
theorem Arr.block {w w' : World} {g : Nat} {f : Nat → Nat} (h : Arr w g f) (hb : w'.heap[g]? = w.heap[g]?) : Arr w' g f := hb.trans h
theorem Arr.setOther {w : World} {g : Nat} {f : Nat → Nat} (h : Arr w g f) {a : Addr} (ha : g ≠ a.block) (u : Value) : Arr (w.setCell a u) g f := h.block (Below.heap_setCell w a u g ha)
theorem Arr.alloc {w : World} {g : Nat} {f : Nat → Nat} (h : Arr w g f) (o : Obj) : Arr (w.alloc o) g f := h.block (Below.heap_alloc w o g h.lt)
theorem Arr.new (w : World) : Arr (w.alloc (.cells (A256 (fun _ => 0)) 37)) w.heap.size (fun _ => 0) := heap_alloc_new w _
theorem Arr.setRow {w : World} {g : Nat} {f : Nat → Nat} (h : Arr w g f) (f' : Nat → Nat) : Arr (w.setRow g (A256 f')) g f' := setRow_heap w g _ _ _ _ h
theorem Arr.setRowOther {w : World} {g g' : Nat} {f : Nat → Nat} (h : Arr w g f) (hne : g ≠ g') (cs : Array Value) : Arr (w.setRow g' cs) g f := h.block (setRow_other w g' g cs hne)
theorem below_setRow' {B : Nat} {a w : World} (h : Below B a w) {g : Nat} (hg : B ≤ g) (cs : Array Value) : Below B a (w.setRow g cs) :=
  h.trans ⟨rfl, rfl, rfl, by simp, fun k hk => setRow_other w g k cs (by omega)⟩

theorem Try.info256 : (Try.prog.info? 37).map (fun i => (i.zero, i.size)) = some (some (.agg (A256 (fun _ => 0))), 256) := by kernel_rfl
theorem info256_size : (Try.prog.info? 37).map (·.size) = some 256 := by kernel_rfl

theorem run_alloc_arr (w : World) : (Instr.alloc 37 true (.tuple #[])).run Try.prog w = .ok (.pointer (some ⟨w.heap.size, 0, none⟩)) (w.alloc (.cells (A256 (fun _ => 0)) 37)) := by
  cases hq : Try.prog.info? 37 with
  | none => have := Try.info256; rw [hq] at this; cases this
  | some i =>
    have h := Try.info256
    rw [hq] at h
    simp only [Option.map_some, Option.some.injEq, Prod.mk.injEq] at h
    have hz := h.1
    simp [Instr.alloc, zeroValue, typeInfo, hq, hz, newVar, newRow, Value.cells]

theorem wpList_alloc_arr {ops : Array Oper} {rest : List Oper} {o : Oper} {a : Act} {w : World} {Q : Exit → Act → World → Prop} (hg : o.guard = none) (ho : o.op = .alloc 37)
    (h : wpList Try.prog ops Q rest (a.put o.dst (.pointer (some ⟨w.heap.size, 0, none⟩))) (w.alloc (.cells (A256 (fun _ => 0)) 37))) : wpList Try.prog ops Q (o :: rest) a w := by
  refine wpList_plain hg fun K hK => ?_
  unfold Oper.wp
  simp only [execOp, ho, Sem.run_bind, Sem.run_pure, run_alloc_arr, Result.andThen]
  exact hK _ _ h

theorem run_index_arr (w : World) (f : Nat → Nat) (k : Nat) (hk : k < 256) : (Instr.index 37 (.agg (A256 f)) (.int .i64 (k : Int))).run Try.prog w = .ok (.int .i64 (f k : Int)) w := by
  obtain ⟨i0, hi, _, hz1, _⟩ := info_parts Try.info3
  simp [Instr.index, asIntOf, run_underlying Try.underlying37, run_underlying Try.underlying3, part, isAgg, sizeOf, typeInfo, hi, hz1, A256_get f k hk]
  omega

/-- The bytes of a string, as numbers. -/
def byN (s : ByteArray) (i : Nat) : Nat := if h : i < s.size then (s[i]).toNat else 0
theorem byN_lt (s : ByteArray) (i : Nat) (h : i < s.size) : byN s i = (s[i]).toNat := by simp [byN, h]
theorem byN_256 (s : ByteArray) (i : Nat) : byN s i < 256 := by
  unfold byN; split
  · exact (s[i]).toNat_lt
  · omega

set_option maxRecDepth 100000 in
set_option maxHeartbeats 1000000 in
theorem firstRows_any (s : ByteArray) (w : World) (hn : s.size ≤ 2000) :
    Calls Try.prog 90 #[.string s] w fun e w' => ∃ F, (∀ c, c < 256 → F c = 1 + less (byN s) c s.size) ∧ e = .returned (.agg (A256 F)) ∧ Below w.heap.size w w' := by
  go_enter Try.func90, Try.ntmps90
  go_wp2_with (refine wpList_alloc_arr rfl rfl ?_)
  have a0 : Arr (((w.alloc (.cells (A256 fun _ => 0) 37)).alloc (.cells (A256 fun _ => 0) 37)).alloc (.cells (A256 fun _ => 0) 37)) w.heap.size (fun _ => 0) := ((Arr.new w).alloc _).alloc _
  have a1 : Arr (((w.alloc (.cells (A256 fun _ => 0) 37)).alloc (.cells (A256 fun _ => 0) 37)).alloc (.cells (A256 fun _ => 0) 37)) (w.heap.size + 1) (fun _ => 0) := by
    have := (Arr.new (w.alloc (.cells (A256 fun _ => 0) 37))).alloc (.cells (A256 fun _ => 0) 37)
    simpa using this
  have a2 : Arr (((w.alloc (.cells (A256 fun _ => 0) 37)).alloc (.cells (A256 fun _ => 0) 37)).alloc (.cells (A256 fun _ => 0) 37)) (w.heap.size + 1 + 1) (fun _ => 0) := by
    have := Arr.new ((w.alloc (.cells (A256 fun _ => 0) 37)).alloc (.cells (A256 fun _ => 0) 37))
    simpa using this
  have hbel : Below w.heap.size w (((w.alloc (.cells (A256 fun _ => 0) 37)).alloc (.cells (A256 fun _ => 0) 37)).alloc (.cells (A256 fun _ => 0) 37)) := (((Below.refl _ _).alloc (Nat.le_refl _) _).alloc (by simp) _).alloc (by simp; omega) _
  generalize ((w.alloc (.cells (A256 fun _ => 0) 37)).alloc (.cells (A256 fun _ => 0) 37)).alloc (.cells (A256 fun _ => 0) 37) = W0 at *
  go_loopw [11, 5] (fun i _ wr => ∃ k : Nat, k ≤ s.size ∧ i = .int .i64 (k : Int) ∧ (∃ cf, Arr wr (w.heap.size + 1) cf ∧ Hid (∀ c, cf c = cnt (byN s) c k)) ∧ Arr wr w.heap.size (fun _ => 0) ∧ Arr wr (w.heap.size + 1 + 1) (fun _ => 0) ∧ Below w.heap.size w wr) (fun i _ _ => s.size - (intOf i).toNat)
  case atStart => exact ⟨0, Nat.zero_le _, rfl, ⟨_, a1, fun c => rfl⟩, a0, a2, hbel⟩
  case round =>
    clear a0 a1 a2 hbel
    obtain ⟨k, hk, rfl, ⟨cf, hcf, HC⟩, ha0, ha2, hb⟩ := hrel
    by_cases hlt : k < s.size
    · have hby := (s[k]).toNat_lt
      have hc1 := hcf.cell hby
      have hfz := hcf.free (s[k]).toNat
      have hle : cf (s[k]).toNat ≤ s.size := by rw [HC.out]; have := cnt_le (byN s) (s[k]).toNat k; omega
      go_wp2
      go_roundw
      case rel =>
        refine ⟨k + 1, by omega, by go_num, ⟨_, hcf.set (s[k]).toNat (cf (s[k]).toNat + 1), fun c => ?_⟩, ha0.setOther (by simp) _, ha2.setOther (by simp) _, hb.setCell (by simp) _⟩
        have hbk := byN_lt s k hlt
        by_cases e : c = (s[k]).toNat
        · subst e; rw [upd_at, HC.out, cnt_succ, if_pos hbk]
        · rw [upd_ne _ _ _ e, HC.out, cnt_other _ _ _ (by rw [hbk]; exact fun h => e h.symm)]
      case measure => simp [intOf]; omega
    · have hkn : k = s.size := by omega
      have HC2 : Hid (∀ c, cf c = cnt (byN s) c s.size) := by rw [← hkn]; exact HC
      clear HC hkn
      go_wp2_with (refine wpList_load_row rfl 37 (.tmp 3) rfl (w.heap.size + 1) rfl 37 (A256 cf) (0, 0) _ hcf Try.underlying37 rfl (by rw [A256_size]; exact info256_size) ?_)
      go_loopw [23, 6, 7, 8] (fun i r _ _ wr => ∃ c : Nat, c ≤ 256 ∧ i = .int .i64 (c : Int) ∧ r = .int .i64 ((1 + less (byN s) c s.size : Nat) : Int) ∧ (∃ F, Arr wr (w.heap.size + 1 + 1) F ∧ Hid (∀ j, j < c → F j = 1 + less (byN s) j s.size)) ∧ Arr wr w.heap.size (fun _ => 0) ∧ Below w.heap.size w wr) (fun i _ _ _ _ => 256 - (intOf i).toNat)
      case atStart => exact ⟨0, by omega, rfl, by rw [less_zero]; rfl, ⟨_, ha2, fun j hj => by omega⟩, ha0, hb⟩
      case round =>
        clear hcf ha0 ha2 hb
        obtain ⟨c, hc, rfl, rfl, ⟨F, hF, HF⟩, ha0, hb⟩ := hrel
        have hl1 := less_le (byN s) c s.size
        by_cases hlt2 : c < 256
        · have hc1 := hF.cell hlt2
          have hfz := hF.free c
          have hix := fun ww => run_index_arr ww cf c hlt2
          have hle : cf c ≤ s.size := by rw [HC2.out]; exact cnt_le _ _ _
          have HN : Hid (1 + less (byN s) (c + 1) s.size = 1 + less (byN s) c s.size + cf c) := by show 1 + less (byN s) (c + 1) s.size = _; rw [less_succ, HC2.out]; omega
          go_wp2
          go_roundw
          case rel => exact ⟨c + 1, by omega, by go_num, by rw [HN.out]; go_num, ⟨_, hF.set c (1 + less (byN s) c s.size), upd_next HF.out rfl⟩, ha0.setOther (by show w.heap.size ≠ w.heap.size + 1 + 1; omega) _, hb.setCell (by show w.heap.size ≤ w.heap.size + 1 + 1; omega) _⟩
          case measure => simp [intOf]; omega
        · have hc256 : c = 256 := by omega
          have HF2 : Hid (∀ j, j < 256 → F j = 1 + less (byN s) j s.size) := by rw [← hc256]; exact HF
          clear HF hc256
          go_wp2_with (first | (refine wpList_load_row rfl 37 (.tmp 4) rfl (w.heap.size + 1 + 1) rfl 37 (A256 F) (0, 0) _ hF Try.underlying37 rfl (by rw [A256_size]; exact info256_size) ?_) | (refine wpList_store_row rfl 37 (.tmp 2) (.tmp 34) rfl w.heap.size (A256 F) rfl rfl 37 (A256 fun _ => 0) ha0 (by rw [A256_size]; exact info256_size) (by rw [A256_size, A256_size]) (A256_one F) ?_))
          exact bodyPost_ret (v := .agg (A256 F)) (results_cell_row (P := Try.prog) rfl _ _ w.heap.size 37 (A256 F) (0, 0) _ rfl (ha0.setRow F) Try.underlying37 rfl (by rw [A256_size]; exact info256_size)) rfl ⟨F, HF2.out, rfl, below_setRow' hb (Nat.le_refl _) _⟩

/-- One step of the ranks. -/
theorem ranks_step {b nx rows : Nat → Nat} {n k K : Nat} (hbk : b k < K) (h : ∀ c, c < K → nx c = 1 + less b c n + cnt b c k) (h2 : ∀ j, j < k → rows j = 1 + rk b n j) :
    (∀ c, c < K → upd nx (b k) (nx (b k) + 1) c = 1 + less b c n + cnt b c (k + 1)) ∧ ∀ j, j < k + 1 → upd rows k (nx (b k)) j = 1 + rk b n j := by
  refine ⟨fun c hc => ?_, ?_⟩
  · by_cases e : c = b k
    · subst e; rw [upd_at, cnt_same, h _ hc]; omega
    · rw [upd_ne _ _ _ e, cnt_other _ _ _ (fun h => e h.symm), h c hc]
  · refine upd_next (φ := fun j => 1 + rk b n j) h2 ?_
    show nx (b k) = 1 + rk b n k
    rw [h _ hbk]; unfold rk; omega

set_option maxRecDepth 100000 in
set_option maxHeartbeats 1000000 in
theorem rowsBegunBy_any (s : ByteArray) (w : World) (hn : s.size ≤ 2000) :
    Calls Try.prog 77 #[.string s] w fun e w' => NewN w w' e s.size (fun j => 1 + rk (byN s) s.size j) := by
  obtain ⟨i0, hi, hz0, hz1, hz2⟩ := info_parts Try.info3
  go_enter Try.func77, Try.ntmps77
  go_wp2_with fail
  refine (firstRows_any s _ hn).mono ?_
  rintro e w1 ⟨F, hF, rfl, hb1⟩
  have HF : Hid (∀ c, c < 256 → F c = 1 + less (byN s) c s.size + cnt (byN s) c 0) := fun c hc => by rw [hF c hc]; rfl
  clear hF
  have hsz1 := hb1.size
  have an := (Arr.new w1).setRow F
  have ann := Arr.new w1
  have hb2 := below_setRow' (hb1.alloc hsz1 (.cells (A256 fun _ => 0) 37)) hsz1 (A256 F)
  go_wp2_with (first | (at_make; refine wpList_make_full _ rfl _ _ 22 rfl w.heap.size 3 i0 (.int .i64 0) 1 Try.underlying22 hi hz0 hz1 .i64 .i64 _ _ s.size rfl rfl (by omega) (by omega) (by rw [hz2]; omega) (by unfold maxLen; omega) (by simp; omega) ?_; intro w2 hown hgr) | (refine wpList_alloc_arr rfl rfl ?_) | (refine wpList_store_row rfl 37 (.tmp 3) (.tmp 8) rfl w1.heap.size (A256 F) rfl rfl 37 (A256 fun _ => 0) ann (by rw [A256_size]; exact info256_size) (by rw [A256_size, A256_size]) (A256_one F) ?_))
  have hrow := Row.made hown
  have hw1 : ((w1.alloc (.cells (A256 fun _ => 0) 37)).setRow w1.heap.size (A256 F)).heap.size = w1.heap.size + 1 := by simp
  rw [hw1] at hrow
  have hb3 := hb2.grown hgr (by rw [hw1]; omega) (fun _ h => by cases h)
  have an3 : Arr w2 w1.heap.size F := an.block (hgr.block _ (by rw [hw1]; omega) (by simp))
  clear hown hgr an ann hb1 hb2 hw1
  generalize A256 F = AF at *
  obtain ⟨G, hG⟩ : ∃ G, G = w1.heap.size := ⟨_, rfl⟩
  rw [← hG] at hrow an3 hsz1 ⊢
  clear hG
  go_loopw [14, 5, 6] (fun i _ _ wr => ∃ k : Nat, k ≤ s.size ∧ i = .int .i64 (k : Int) ∧ (∃ nx rows, Arr wr G nx ∧ Row wr (G + 1) 3 s.size (IN rows) ∧ Hid (∀ c, c < 256 → nx c = 1 + less (byN s) c s.size + cnt (byN s) c k) ∧ Hid (∀ j, j < k → rows j = 1 + rk (byN s) s.size j)) ∧ Below w.heap.size w wr) (fun i _ _ _ => s.size - (intOf i).toNat)
  case atStart => exact ⟨0, Nat.zero_le _, rfl, ⟨F, fun _ => 0, an3, hrow, HF, fun j hj => by omega⟩, hb3⟩
  case round =>
    clear an3 hrow hb3 HF
    obtain ⟨k, hk, rfl, ⟨nx, rows, hnx, hr, H1, H2⟩, hb⟩ := hrel
    by_cases hlt : k < s.size
    · have hby := (s[k]).toNat_lt
      have hbk := byN_lt s k hlt
      have R := ranks_step (rows := rows) (byN_256 s k) H1.out H2.out
      rw [hbk] at R
      have HR : Hid _ := R
      have hc1 := hnx.cell hby
      have hfz1 := hnx.free (s[k]).toNat
      have hc2 := hr.cell hlt
      have hfz2 := hr.free k
      rw [IN_at] at hc2
      have hle : nx (s[k]).toNat ≤ 1 + s.size + s.size := by
        rw [H1.out _ hby]
        have h1 := less_le (byN s) (s[k]).toNat s.size
        have h2 := cnt_le (byN s) (s[k]).toNat k
        omega
      clear R hbk
      go_wp2
      go_roundw
      case rel => exact ⟨k + 1, by omega, by go_num, ⟨_, _, (hnx.setOther (by show G ≠ G + 1; omega) _).set (s[k]).toNat (nx (s[k]).toNat + 1), (hr.setN k (nx (s[k]).toNat)).setOther (by show G + 1 ≠ G; omega) _, HR.out.1, HR.out.2⟩, (hb.setCell (by show w.heap.size ≤ G + 1; omega) _).setCell hsz1 _⟩
      case measure => simp [intOf]; omega
    · go_wp2
      go_ret
      exact ⟨G + 1, _, rfl, Nat.le_refl _, by unfold maxLen; omega, by omega, hr.congr (fun j hj => by simp only [IN, H2.out j (show j < k by omega)]), hb⟩

end Go.Proofs.Ytkebgnpifmcmaaa
