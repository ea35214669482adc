import Derived.Test.YtkebgnpifmcmaaaXC
namespace Go.Proofs.Ytkebgnpifmcmaaa
open Go.RowKit

/-- An array of so many values, by a function. -/
def AN (n : Nat) (F : Nat → Value) : Array Value := (Array.range n).map F
theorem AN_size (n : Nat) (F : Nat → Value) : (AN n F).size = n := by simp [AN]
theorem AN_get (n : Nat) (F : Nat → Value) (j : Nat) (h : j < n) : (AN n F)[j]? = some (F j) := by simp [AN, h]
theorem AN_set (n : Nat) (F : Nat → Value) (j : Nat) (v : Value) : (AN n F).setIfInBounds j v = AN n (updV F j v) := by
  apply Array.ext_getElem?
  intro i
  rw [Array.getElem?_setIfInBounds]
  by_cases e : j = i
  · subst e
    rw [if_pos rfl, AN_size]
    by_cases h : j < n
    · rw [if_pos h, AN_get _ _ _ h]; simp [updV]
    · rw [if_neg h]; symm; rw [Array.getElem?_eq_none_iff, AN_size]; omega
  · rw [if_neg e]
    by_cases h : i < n
    · rw [AN_get _ _ _ h, AN_get _ _ _ h]; simp [updV]; intro h2; exact absurd h2.symm e
    · have h1 : (AN n F)[i]? = none := by rw [Array.getElem?_eq_none_iff, AN_size]; omega
      have h2 : (AN n (updV F j v))[i]? = none := by rw [Array.getElem?_eq_none_iff, AN_size]; omega
      rw [h1, h2]
theorem AN_one (n : Nat) (F : Nat → Value) (h : ∀ j, (F j).oneCell' = true) : (AN n F).all (·.oneCell') = true := by
  rw [Array.all_eq_true_iff_forall_mem]
  intro v hv
  simp only [AN, Array.mem_map] at hv
  obtain ⟨j, _, rfl⟩ := hv
  exact h j
theorem Blk.cellAN {w : World} {g : Nat} {T : TypeId} {n : Nat} {F : Nat → Value} (h : Blk w g T (AN n F)) {j : Nat} (hj : j < n) : w.cell? ⟨g, j, none⟩ = some (F j) := by rw [h.cell j, AN_get _ _ _ hj]
theorem Blk.setAN {w : World} {g : Nat} {T : TypeId} {n : Nat} {F : Nat → Value} (h : Blk w g T (AN n F)) (j : Nat) (v : Value) : Blk (w.setCell ⟨g, j, none⟩ v) g T (AN n (updV F j v)) := by
  rw [← AN_set]; exact h.set j v

def VB (f : Nat → Bool) : Nat → Value := fun j => .bool (f j)
theorem VB_at (f : Nat → Bool) (j : Nat) : VB f j = .bool (f j) := rfl
theorem updV_VB (f : Nat → Bool) (j : Nat) (x : Bool) : updV (VB f) j (.bool x) = VB (upd f j x) := by
  funext i; simp only [updV, VB, upd]; split <;> rfl

theorem run_alloc_AN (w : World) (T n : Nat) (z : Value) (h : (Try.prog.info? T).map (fun i => (i.zero, i.size)) = some (some (.agg (AN n fun _ => z)), n)) : (Instr.alloc T true (.tuple #[])).run Try.prog w = .ok (.pointer (some ⟨w.heap.size, 0, none⟩)) (w.alloc (.cells (AN n fun _ => z) T)) := by
  cases hq : Try.prog.info? T with
  | none => rw [hq] at h; cases h
  | some i =>
    rw [hq] at h
    simp only [Option.map_some, Option.some.injEq, Prod.mk.injEq] at h
    have hz := h.1
    simp [Instr.alloc, zeroValue, typeInfo, hq, hz, newVar, newRow, Value.cells]
theorem wpList_alloc_AN {ops : Array Oper} {rest : List Oper} {o : Oper} {a : Act} {w : World} {Q : Exit → Act → World → Prop} (hg : o.guard = none) (T n : Nat) (z : Value) (hT : (Try.prog.info? T).map (fun i => (i.zero, i.size)) = some (some (.agg (AN n fun _ => z)), n)) (ho : o.op = .alloc T)
    (h : wpList Try.prog ops Q rest (a.put o.dst (.pointer (some ⟨w.heap.size, 0, none⟩))) (w.alloc (.cells (AN n fun _ => z) T))) : wpList Try.prog ops Q (o :: rest) a w := by
  refine wpList_plain hg fun K hK => ?_
  unfold Oper.wp
  simp only [execOp, ho, Sem.run_bind, Sem.run_pure, run_alloc_AN _ T n z hT, Result.andThen]
  exact hK _ _ h

theorem info256b : (Try.prog.info? 149).map (fun i => (i.zero, i.size)) = some (some (.agg (AN 256 fun _ => .bool false)), 256) := by kernel_rfl
theorem info256b_size : (Try.prog.info? 149).map (·.size) = some 256 := by kernel_rfl
theorem Try.info4 : (Try.prog.info? 4).map (fun i => (i.zero, i.size, i.bytes)) = some (some (.bool false), 1, 1) := by kernel_rfl
theorem run_index_arrb (w : World) (f : Nat → Bool) (k : Nat) (hk : k < 256) : (Instr.index 149 (.agg (AN 256 (VB f))) (.int .i64 (k : Int))).run Try.prog w = .ok (.bool (f k)) w := by
  obtain ⟨i0, hi, _, hz1, _⟩ := info_parts Try.info4
  have h1 := AN_get 256 (VB f) k hk
  rw [VB_at] at h1
  simp [Instr.index, asIntOf, run_underlying Try.underlying149, run_underlying Try.underlying4, part, isAgg, sizeOf, typeInfo, hi, hz1, h1]
  omega

/-- Does a byte occur? -/
def occ (s : ByteArray) (k : Nat) (c : Nat) : Bool := decide (cnt (byN s) c k ≠ 0)
theorem occ_next (s : ByteArray) (k c : Nat) : occ s (k + 1) c = upd (occ s k) (byN s k) true c := by
  by_cases e : c = byN s k
  · subst e; rw [upd_at]; simp [occ, cnt]
  · rw [upd_ne _ _ _ e]; unfold occ; rw [cnt_other _ _ _ (fun h => e h.symm)]
/-- The letters, rising. -/
def lets (F : Nat → Bool) : Nat → List UInt8
  | 0 => []
  | c + 1 => lets F c ++ (if F c then [UInt8.ofNat c] else [])
theorem lets_length (F : Nat → Bool) (c : Nat) : (lets F c).length = cntB F c := by
  induction c with
  | zero => rfl
  | succ c ih => simp only [lets, List.length_append, ih, cntB]; cases F c <;> rfl
theorem lets_le (F : Nat → Bool) (c : Nat) : (lets F c).length ≤ c := by rw [lets_length]; exact cntB_le _ _
def letters (s : ByteArray) : List UInt8 := lets (occ s s.size) 256

set_option maxRecDepth 100000 in
set_option maxHeartbeats 1000000 in
theorem lettersOf_any (s : ByteArray) (w : World) (hn : s.size ≤ 2000) :
    Calls Try.prog 101 #[.string s] w fun e w' => e = .returned (.string (bs (letters s))) ∧ Below w.heap.size w w' := by
  obtain ⟨i0, hi, hz0, hz1, hz2⟩ := info_parts Try.info5
  have ha0 := Blk.new w 149 (AN 256 (VB fun _ => false))
  have hb0 : Below w.heap.size w (w.alloc (.cells (AN 256 (VB fun _ => false)) 149)) := (Below.refl _ _).alloc (Nat.le_refl _) _
  go_enter Try.func101, Try.ntmps101
  go_wp2_with (refine wpList_alloc_AN rfl 149 256 (.bool false) info256b rfl ?_)
  change Blk (w.alloc (.cells (AN 256 fun _ => .bool false) 149)) _ _ _ at ha0
  change Below _ _ (w.alloc (.cells (AN 256 fun _ => .bool false) 149)) at hb0
  generalize w.alloc (.cells (AN 256 fun _ => .bool false) 149) = W0 at *
  go_loopw [10, 4] (fun i _ wr => ∃ k : Nat, k ≤ s.size ∧ i = .int .i64 (k : Int) ∧ Blk wr w.heap.size 149 (AN 256 (VB (occ s k))) ∧ Below w.heap.size w wr) (fun i _ _ => s.size - (intOf i).toNat)
  case atStart => exact ⟨0, Nat.zero_le _, rfl, ha0, hb0⟩
  case round =>
    clear ha0 hb0
    obtain ⟨k, hk, rfl, ha, hb⟩ := hrel
    by_cases hlt : k < s.size
    · have hby := (s[k]).toNat_lt
      have hc1 := ha.cellAN hby
      have hfz := ha.free (s[k]).toNat
      have HN : Hid (updV (VB (occ s k)) (s[k]).toNat (.bool true) = VB (occ s (k + 1))) := by
        show updV (VB (occ s k)) (s[k]).toNat (.bool true) = _
        rw [updV_VB, ← byN_lt s k hlt]; congr 1; funext c; exact (occ_next s k c).symm
      go_wp2
      go_roundw
      case rel => exact ⟨k + 1, by omega, by go_num, by rw [← HN.out]; exact ha.setAN _ _, hb.setCell (Nat.le_refl _) _⟩
      case measure => simp [intOf]; omega
    · have hkn : k = s.size := by omega
      subst hkn
      go_wp2_with (refine wpList_load_row rfl 149 (.tmp 3) rfl w.heap.size rfl 149 (AN 256 (VB (occ s s.size))) (0, 0) _ ha Try.underlying149 rfl (by rw [AN_size]; exact info256b_size) ?_)
      have hix := fun w c (h : c < 256) => run_index_arrb w (occ s s.size) c h
      have HIX : Hid _ := hix
      clear hix
      have hown0 := World.ownsRow_nil wr w.heap.size 5 1
      go_loopw [5, 19, 6, 7] (fun v i _ _ wr => ∃ c : Nat, c ≤ 256 ∧ i = .int .i64 (c : Int) ∧ wr.ownsRow w.heap.size 5 1 v (lets (occ s s.size) c).length (BL (lets (occ s s.size) c)) ∧ Below w.heap.size w wr) (fun _ i _ _ _ => 256 - (intOf i).toNat)
      case atStart => exact ⟨0, Nat.zero_le _, rfl, hown0, hb⟩
      case round =>
        clear hown0 hb ha
        obtain ⟨c, hc, rfl, hown, hb⟩ := hrel
        have hll := lets_le (occ s s.size) c
        have hsz := hb.size
        by_cases hlt2 : c < 256
        · have hix := fun w => HIX.out w c hlt2
          by_cases ho : occ s s.size c = true
          · have hcv : (UInt8.ofNat c).toNat = c := by simp [UInt8.toNat_ofNat']; omega
            have HN : Hid (lets (occ s s.size) (c + 1) = lets (occ s s.size) c ++ [UInt8.ofNat c]) := by
              show lets (occ s s.size) (c + 1) = _
              simp [lets, ho]
            have hw : IntKind.u8.wrap (c : Int) = (c : Int) := by simp [IntKind.wrap, IntKind.bits, IntKind.signed]; omega
            rw [ho] at hix
            go_wp2_with (at_builtin; refine wpList_append_own _ rfl (.tmp 24) (.tmp 27) 60 rfl w.heap.size 5 i0 (.int .u8 0) 1 1 Try.underlying60 hi hz0 hz1 hz2 rfl (by decide) u5 (lets (occ s s.size) c).length _ rfl (hown.alloc _) ⟨wr.heap.size, 0, none⟩ 1 1 [.int .u8 (c : Int)] rfl rfl (cell_one_new _ _ _) (by simp; rfl) (by unfold maxLen; omega) (by omega) (by simp; omega) ?_; intro v' w1 hown1 hgr1 _)
            have hb1 : Below w.heap.size w w1 := (hb.alloc hsz _).grown hgr1 (by simp; omega) (fun k hk => (hown.lt k hk).1)
            rw [show (.int .u8 (c : Int) : Value) = .int .u8 ((UInt8.ofNat c).toNat : Int) from by rw [hcv], BL_snoc] at hown1
            have hown1' : w1.ownsRow w.heap.size 5 1 v' (lets (occ s s.size) (c + 1)).length (BL (lets (occ s s.size) (c + 1))) := by
              rw [HN.out, List.length_append]; exact hown1
            go_roundw
            case rel => exact ⟨c + 1, by omega, by go_num, hown1', hb1⟩
            case measure => simp [intOf]; omega
          · have ho' : occ s s.size c = false := by simpa using ho
            have HN : Hid (lets (occ s s.size) (c + 1) = lets (occ s s.size) c) := by
              show lets (occ s s.size) (c + 1) = _
              simp [lets, ho']
            rw [ho'] at hix
            go_wp2
            go_roundw
            case rel => exact ⟨c + 1, by omega, by go_num, by rw [HN.out]; exact hown, hb⟩
            case measure => simp [intOf]; omega
        · have hc256 : c = 256 := by omega
          subst hc256
          have hcv := conv_own hown
          go_wp2
          go_ret
          exact ⟨rfl, hb⟩
end Go.Proofs.Ytkebgnpifmcmaaa
