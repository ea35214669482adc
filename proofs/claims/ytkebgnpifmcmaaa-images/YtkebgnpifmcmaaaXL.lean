import Derived.Test.YtkebgnpifmcmaaaXK
namespace Go.Proofs.Ytkebgnpifmcmaaa
open Go.RowKit

theorem infoSide : (Try.prog.info? 70).map (·.size) = some 2 := by kernel_rfl

theorem Ctr.form {w : World} {v : Value} {s : ByteArray} (h : Ctr w v s) : ∃ t a, v = .iface t (.pointer (some a)) := by
  rcases h with ⟨_, g, rfl, _⟩ | ⟨_, g, rfl, _⟩
  · exact ⟨_, _, rfl⟩
  · exact ⟨_, _, rfl⟩
/-- A counter stays, where a block of another kind is written into. -/
theorem BR.other {w w' : World} {a b c : Value} {n : Nat} {f : Nat → Bool} (h : BR w a b c n f) {B : Nat} (hb : ∀ g, g < B → w'.heap[g]? = w.heap[g]?) (hlt : w.heap.size ≤ B) : BR w' a b c n f := by
  obtain ⟨gw, ga, W, r1, r2, r3, r4, r5, r6⟩ := h
  exact ⟨gw, ga, W, r1, r2, r3, r4.block (hb _ (Nat.lt_of_lt_of_le r4.lt hlt)), r5, r6.block (hb _ (Nat.lt_of_lt_of_le r6.lt hlt))⟩
theorem enterRanksOf (args : Array Value) (w : World) : (callFunc 95 args).run Try.prog w = .ok (.enter 95 args) w := Go.MuLone.run_callFunc_enter (P := Try.prog) Try.func95 (by kernel_rfl) rfl args w
theorem enterSideOf (args : Array Value) (w : World) : (callFunc 80 args).run Try.prog w = .ok (.enter 80 args) w := Go.MuLone.run_callFunc_enter (P := Try.prog) Try.func80 (by kernel_rfl) rfl args w
theorem enterKeep (args : Array Value) (w : World) : (callFunc 81 args).run Try.prog w = .ok (.enter 81 args) w := Go.MuLone.run_callFunc_enter (P := Try.prog) Try.func81 (by kernel_rfl) rfl args w

/-- A counter lives in blocks of its own kinds. -/
theorem Ctr.setBlk {w : World} {v : Value} {s : ByteArray} (h : Ctr w v s) {g : Nat} {T : TypeId} {cs : Array Value} (hk : Blk w g T cs) (h1 : T ≠ 142) (h2 : T ≠ 3) (h3 : T ≠ 73) (h4 : T ≠ 151) (h5 : T ≠ 141) (h6 : T ≠ 145) (j : Nat) (u : Value) : Ctr (w.setCell ⟨g, j, none⟩ u) v s := by
  have hne : ∀ {g' : Nat} {T' : TypeId} {cs' : Array Value}, Blk w g' T' cs' → T ≠ T' → g' ≠ g := fun {g'} {T'} {cs'} hB hT e => by
    subst e
    unfold Blk at hB hk
    rw [hB] at hk
    simp only [Option.some.injEq, Obj.cells.injEq] at hk
    exact hT hk.2.1.symm
  rcases h with ⟨q1, gc, rfl, base, vv, xs, k1, k2, k3⟩ | ⟨q1, gc, rfl, base, vv, k1, k2⟩
  · refine .inl ⟨q1, gc, rfl, base, vv, xs, k1.setOther (hne k1 h5) _, own_setOther k2 _ _ (blk_ne_own hk k2 h3), fun i hi => ?_⟩
    obtain ⟨a, b, c, r1, r2, r3, r4⟩ := k3 i hi
    exact ⟨a, b, c, r1, r2, r3, r4.setBlk hk h1 h2 _ _⟩
  · exact .inr ⟨q1, gc, rfl, base, vv, k1.setOther (hne k1 h6) _, own_setOther k2 _ _ (blk_ne_own hk k2 h4)⟩

set_option maxRecDepth 10000 in
set_option maxHeartbeats 1000000 in
theorem sideOf_any (s : ByteArray) (e : Nat) (w : World) (hn : s.size ≤ 2000) : Calls Try.prog 80 #[.agg #[.string s, .int .i64 (e : Int)]] w fun en w' => ∃ v, en = .returned (.agg #[v, .int .i64 (e : Int)]) ∧ Ctr w' v s ∧ Below w.heap.size w w' := by
  have k0 := (Blk.new w 92 #[.string s, .int .i64 (e : Int)]).alloc (.cells #[.nilIface, .int .i64 0] 70)
  have k1 := Blk.new (w.alloc (.cells #[.string s, .int .i64 (e : Int)] 92)) 70 #[.nilIface, .int .i64 0]
  rw [show (w.alloc (.cells #[.string s, .int .i64 (e : Int)] 92)).heap.size = w.heap.size + 1 from by simp] at k1
  have hb0 : Below w.heap.size w ((w.alloc (.cells #[.string s, .int .i64 (e : Int)] 92)).alloc (.cells #[.nilIface, .int .i64 0] 70)) := ((Below.refl _ _).alloc (Nat.le_refl _) _).alloc (by simp) _
  go_enter Try.func80, Try.ntmps80
  go_upto_region 1 with fail
  generalize (w.alloc (.cells #[.string s, .int .i64 (e : Int)] 92)).alloc (.cells #[.nilIface, .int .i64 0] 70) = W0 at *
  obtain ⟨G, hG⟩ : ∃ G, G = w.heap.size := ⟨_, rfl⟩
  have HG : Hid (G = w.heap.size) := hG
  rw [← hG] at k0 k1 hb0 ⊢
  clear hG
  have hc0 : W0.cell? ⟨G, 0, none⟩ = some (.string s) := k0.cell 0
  have hc1 : W0.cell? ⟨G, 1, none⟩ = some (.int .i64 (e : Int)) := k0.cell 1
  have k0' : Blk W0.drew G 92 #[.string s, .int .i64 (e : Int)] := k0
  have k1' : Blk W0.drew (G + 1) 70 #[.nilIface, .int .i64 0] := k1
  have hl0 := k0.lt
  have hl1 := k1.lt
  have hbd : Below G w W0.drew := hb0.drew
  go_region_law (first
    | (refine step_calls (args := #[.string s]) rfl rfl enterRanksOf (by simp [Act.eval]) (ranksOf_any s W0.drew hn) ?_; rintro en w2 ⟨v, rfl, hctr, hb2⟩; obtain ⟨t, x, rfl⟩ := hctr.form; refine ⟨_, rfl, ?_⟩; have hd1 : w2.cell? ⟨G, 1, none⟩ = some (.int .i64 (e : Int)) := (k0'.below hb2 hl0).cell 1; have hk2 := k1'.below hb2 hl1; have hd2 : w2.cell? ⟨G + 1, 0, none⟩ = some .nilIface := hk2.cell 0; have hd3 : w2.cell? ⟨G + 1, 1, none⟩ = some (.int .i64 0) := hk2.cell 1; have hf2 := hk2.free 0; have hf3 := hk2.free 1))
  all_goals go_wp2
  all_goals exact bodyPost_ret (v := .agg #[.iface t (.pointer (some x)), .int .i64 (e : Int)]) (results_cell_row (P := Try.prog) rfl _ _ (G + 1) 70 _ (0, 0) _ rfl ((hk2.set 0 _).set 1 _) Try.underlying70 rfl infoSide) rfl ⟨_, rfl, (hctr.setBlk hk2 (by decide) (by decide) (by decide) (by decide) (by decide) (by decide) _ _).setBlk (hk2.set 0 _) (by decide) (by decide) (by decide) (by decide) (by decide) (by decide) _ _, by rw [← HG.out]; exact ((hbd.trans (hb2.mono (Nat.le_of_lt hl0))).setCell (by show G ≤ G + 1; omega) _).setCell (by show G ≤ G + 1; omega) _⟩

/-- There is an order of the suffixes. -/
theorem sa_exists (s : ByteArray) (w : World) (hn : s.size ≤ 2000) : ∃ f, IsSA (tx s) f := by
  obtain ⟨_, _, _, ⟨f, _, h⟩, _⟩ := sort_any s w hn []
  exact ⟨f, h⟩

/-- The rows on the way back are those of the places. -/
theorem wayRow_sa {L : List UInt8} {e : Nat} (he : e ≤ L.length) (hok : okBack L e) {f : Nat → Nat} (F : IsSA (backText L e) f) :
    (∀ p, p < L.length + 1 → wayRow L e p < L.length + 1) ∧ (∀ i j, i < L.length + 1 → j < L.length + 1 → wayRow L e i = wayRow L e j → i = j) ∧ (∀ p, p < L.length + 1 → f (wayRow L e p) = p) ∧ ∀ r, r < L.length + 1 → f r < L.length + 1 ∧ wayRow L e (f r) = r := by
  have hbl := backText_length L e
  obtain ⟨hp, hq⟩ := back_transform he hok F
  have R := rr_sa F
  rw [hbl, hp, hq] at R
  have h1 : ∀ p, p < L.length + 1 → wayRow L e p < L.length + 1 ∧ f (wayRow L e p) = p := fun p hp => by
    have := R (L.length - p) (by omega)
    unfold wayRow
    exact ⟨by omega, by rw [this.2]; omega⟩
  refine ⟨fun p hp => (h1 p hp).1, fun i j hi hj h => by rw [← (h1 i hi).2, h, (h1 j hj).2], fun p hp => (h1 p hp).2, fun r hr => ?_⟩
  have hle := F.le r (by omega)
  rw [hbl] at hle
  refine ⟨by omega, F.inj (by have := (h1 (f r) (by omega)).1; omega) (by omega) ?_⟩
  exact (h1 (f r) (by omega)).2

/-- An index, in memory: of two transforms. -/
def IndexQ (w : World) (g : Nat) (s1 : ByteArray) (e1 : Nat) (s2 : ByteArray) (e2 rate : Nat) (f : Nat → Nat) : Prop :=
  ∃ c1 c2 m0 m1 m2 pl base, Blk w g 77 #[c1, .int .i64 (e1 : Int), c2, .int .i64 (e2 : Int), .int .i64 (rate : Int), m0, m1, m2, pl] ∧ Ctr w c1 s1 ∧ Ctr w c2 s2 ∧ BR w m0 m1 m2 (s1.size + 1) (isK f rate) ∧ w.ownsRow base 3 1 pl (keptL f rate (s1.size + 1)).length (NL (keptL f rate (s1.size + 1)))

set_option maxRecDepth 10000 in
set_option maxHeartbeats 1000000 in
theorem join_no1 (s1 s2 : ByteArray) (e1 e2 rate : Nat) (w : World) (hn : s1.size ≤ 2000) (h : s1.size < e1 ∨ (e1 ≤ s1.size ∧ ¬ okBack (tx s1) e1)) :
    Calls Try.prog 60 #[.agg #[.string s1, .int .i64 (e1 : Int)], .agg #[.string s2, .int .i64 (e2 : Int)], .int .i64 (rate : Int)] w fun en w' => en = .returned (.tuple #[.pointer none, .bool false]) ∧ Below w.heap.size w w' := by
  have hb0 : Below w.heap.size w ((w.alloc (.cells #[.string s1, .int .i64 (e1 : Int)] 92)).alloc (.cells #[.string s2, .int .i64 (e2 : Int)] 92)) := ((Below.refl _ _).alloc (Nat.le_refl _) _).alloc (by simp) _
  have H : Hid (∀ w, Calls Try.prog 40 #[.string s1, .int .i64 (e1 : Int)] w fun en w' => en = .returned (.tuple #[.string ByteArray.empty, .bool false]) ∧ Below w.heap.size w w') := fun w => by
    rcases h with h | ⟨h, h'⟩
    · exact (restoreIn_out s1 e1 w hn (.inr (by omega))).mono (fun en w' h => ⟨h.1, h.2 ▸ Below.refl _ _⟩)
    · exact (restoreIn_any s1 e1 w hn h).mono (fun en w' hh => by
        rcases hh.1 with hx | hx
        · exact absurd hx.1 h'
        · exact ⟨hx.2, hh.2⟩)
  clear h
  go_enter Try.func60, Try.ntmps60
  go_wp2_with fail
  refine (H.out _).mono ?_
  clear H
  rintro en w1 ⟨rfl, hb1⟩
  go_wp2
  go_ret2
  exact ⟨rfl, hb0.trans (hb1.mono (by simp; omega))⟩
end Go.Proofs.Ytkebgnpifmcmaaa
