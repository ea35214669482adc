import Derived.Test.YtkebgnpifmcmaaaXD
import Derived.Deep.RegionLaw
namespace Go.Proofs.Ytkebgnpifmcmaaa
open Go.RowKit

theorem step_append_own {P : Program} {ops : Array Oper} {o : Oper} {a : Act} {w : World} {K : Act → World → Prop} {Q : Exit → Act → World → Prop} {E : Prop}
    (hg : o.guard = none) (s x : Operand) (t : TypeId) (hop : o.op = Op.call { callee := Callee.builtin Builtin.append, args := #[s, x], argTypes := #[t, t] })
    (base : Nat) (e : TypeId) (i : TypeInfo) (z : Value) (size bytes : Nat) (ht : P.underlying t = some (.slice e)) (hi : P.info? e = some i) (hz : i.zero = some z)
    (hsize : i.size = size) (hby : i.bytes = bytes) (hzs : z.cells.size = size) (hsz : 0 < size)
    (v : Value) (n : Nat) (xs : List Value) (hs : a.eval s = v) (hown : w.ownsRow base e size v n xs)
    (ad : Addr) (m c : Nat) (news : List Value) (hx : a.eval x = .slice (some ad) m c) (hl : news.length = m * size) (hnews : ∀ j u, news[j]? = some u → w.cell? (ad.add j) = some u) (h1 : ∀ u ∈ news, u.oneCell' = true)
    (h63 : n + m ≤ maxLen) (hbytes : (n + m) * bytes ≤ 140737488355328) (hbase : base ≤ w.heap.size)
    (hK : ∀ v' w', w'.ownsRow base e size v' (n + m) (xs ++ news) → w.grownBy w' v.ownBlock → K (a.put o.dst v') w') :
    if Region.wanted o (yielded ops a.tmps) = true then Oper.wp P o a w K Q else E := by
  have hw : Region.wanted o (yielded ops a.tmps) = true := by simp [Region.wanted, hg]
  rw [if_pos hw]
  exact wp_append_own w s x t hop base e i z size bytes ht hi hz hsize hby hzs hsz v n xs hs hown ad m c news hx hl hnews h1 h63 hbytes hbase fun v' w' h2 h3 _ => hK v' w' h2 h3

theorem step_calls {P : Program} {ops : Array Oper} {o : Oper} {a : Act} {w : World} {K : Act → World → Prop} {Q : Exit → Act → World → Prop} {E : Prop} {f : FuncId} {ags : Array Operand} {ts : Array TypeId} {args : Array Value} {R : Ending → World → Prop}
    (hg : o.guard = none) (hop : o.op = Op.call { callee := Callee.value (Operand.func f), args := ags, argTypes := ts }) (hin : ∀ args w, (callFunc f args).run P w = .ok (.enter f args) w) (hev : ags.map a.eval = args)
    (hC : Calls P f args w R) (hK : ∀ e w', R e w' → ∃ v, e = .returned v ∧ K (a.put o.dst v) w') :
    if Region.wanted o (yielded ops a.tmps) = true then Oper.wp P o a w K Q else E := by
  have hw : Region.wanted o (yielded ops a.tmps) = true := by simp [Region.wanted, hg]
  rw [if_pos hw]
  unfold Oper.wp
  have hrun : (execOp a.eval o).run P w = .ok (.enter f args) w := by
    simp [execOp, hop, resolve, invoke, hev, hin, Act.eval, Deferred.ofValue]
  rw [hrun, Oper.upon_enter]
  refine hC.mono (fun e w' h => ?_)
  obtain ⟨v, rfl, hk⟩ := hK e w' h
  exact hk

theorem cell_three_new (w : World) (T : TypeId) (a b c : Value) : ∀ (j : Nat) (u : Value), [a, b, c][j]? = some u → (w.alloc (.cells #[a, b, c] T)).cell? ((⟨w.heap.size, 0, none⟩ : Addr).add j) = some u := by
  intro j u h
  have hk := Blk.new w T #[a, b, c]
  have h2 : (⟨w.heap.size, 0, none⟩ : Addr).add j = ⟨w.heap.size, j, none⟩ := by
    unfold Addr.add
    by_cases e : j = 0
    · simp [e]
    · simp [e]
  rw [h2, hk.cell j]
  simpa using h

theorem own_form {w : World} {base z n : Nat} {e : TypeId} {v : Value} {xs : List Value} (h : w.ownsRow base e z v n xs) (hn : 0 < n) : ∃ g cap, v = .slice (some ⟨g, 0, none⟩) n cap := by
  rcases h.2 with ⟨_, h0⟩ | ⟨g, cap, cur, rfl, _⟩
  · omega
  · exact ⟨g, cap, rfl⟩

theorem newFew1_any (s lt : ByteArray) (i k g0 g1 g2 : Nat) (w : World) (hi : i < s.size) (hk : k < lt.size) (h0 : Blk w g0 9 #[.string s]) (h1 : Blk w g1 9 #[.string lt]) (h2 : Blk w g2 3 #[.int .i64 (k : Int)]) :
    Calls Try.prog 106 #[.int .i64 (i : Int), .pointer (some ⟨g0, 0, none⟩), .pointer (some ⟨g1, 0, none⟩), .pointer (some ⟨g2, 0, none⟩)] w fun e w' => e = .returned (.bool (decide (s[i] = lt[k]))) ∧ Below w.heap.size w w' := by
  have hc0 : w.cell? ⟨g0, 0, none⟩ = some (.string s) := h0.cell 0
  have hc1 : w.cell? ⟨g1, 0, none⟩ = some (.string lt) := h1.cell 0
  have hc2 : w.cell? ⟨g2, 0, none⟩ = some (.int .i64 (k : Int)) := h2.cell 0
  have hv : Hid ((((s[i]).toNat : Int) == ((lt[k]).toNat : Int)) = decide (s[i] = lt[k])) := by
    show (((s[i]).toNat : Int) == ((lt[k]).toNat : Int)) = decide (s[i] = lt[k])
    by_cases e : s[i] = lt[k]
    · simp [e]
    · rw [decide_eq_false e]
      have : (s[i]).toNat ≠ (lt[k]).toNat := fun h => e (UInt8.toNat_inj.1 h)
      simp; omega
  have hq1 : (i : Int) < (s.size : Int) := by omega
  have hq2 : (k : Int) < (lt.size : Int) := by omega
  go_enter Try.func106, Try.ntmps106
  go_wp2_with fail
  go_quiet (fail)
  go_wp2
  go_ret
  exact ⟨by rw [← hv.out]; rfl, bdrewN (Below.refl _ _) _⟩
theorem enterBitOf (args : Array Value) (w : World) : (callFunc 97 args).run Try.prog w = .ok (.enter 97 args) w := Go.MuLone.run_callFunc_enter (P := Try.prog) Try.func97 (by kernel_rfl) rfl args w
theorem enterFew (args : Array Value) (w : World) : (callFunc 106 args).run Try.prog w = .ok (.enter 106 args) w := Go.MuLone.run_callFunc_enter (P := Try.prog) Try.func106 (by kernel_rfl) rfl args w

theorem Try.infoBR3 : (Try.prog.info? 73).map (fun i => (i.zero, i.size, i.bytes)) = some (some (.agg #[.int .i64 0, .slice none 0 0, .slice none 0 0]), 3, 56) := by kernel_rfl

/-- Is it this letter's bit? -/
def isLet (s lt : ByteArray) (k i : Nat) : Bool := if h : i < s.size ∧ k < lt.size then decide (s[i] = lt[k]) else false
theorem isLet_at (s lt : ByteArray) (k i : Nat) (h : i < s.size) (h2 : k < lt.size) : isLet s lt k i = decide (s[i] = lt[k]) := by simp [isLet, h, h2]

/-- The rows of bits of the letters, as cells. -/
def BRs (w : World) (s lt : ByteArray) (k : Nat) (xs : List Value) : Prop :=
  ∀ j, j < k → ∃ a b c, xs[3 * j]? = some a ∧ xs[3 * j + 1]? = some b ∧ xs[3 * j + 2]? = some c ∧ BR w a b c s.size (isLet s lt j)
theorem BRs.below {w w' : World} {s lt : ByteArray} {k : Nat} {xs : List Value} (h : BRs w s lt k xs) (hb : Below w.heap.size w w') : BRs w' s lt k xs := fun j hj => by
  obtain ⟨a, b, c, h1, h2, h3, h4⟩ := h j hj
  exact ⟨a, b, c, h1, h2, h3, h4.below hb⟩

theorem allocs3 (W : World) (X Y Z : Obj) : (((W.alloc X).alloc Y).alloc Z).heap[W.heap.size]? = some X ∧ (((W.alloc X).alloc Y).alloc Z).heap[W.heap.size + 1]? = some Y ∧ (((W.alloc X).alloc Y).alloc Z).heap[W.heap.size + 1 + 1]? = some Z ∧ Below W.heap.size W (((W.alloc X).alloc Y).alloc Z) ∧ (((W.alloc X).alloc Y).alloc Z).heap.size = W.heap.size + 1 + 1 + 1 :=
  have h := alloc3 W X Y Z rfl
  ⟨h.1, h.2.1, h.2.2.1, ⟨h.2.2.2.os, h.2.2.2.tape, h.2.2.2.output, h.2.2.2.size, h.2.2.2.block⟩, by simp⟩
theorem own_below3 {w w' : World} {base z : Nat} {e : TypeId} {v : Value} {n : Nat} {xs : List Value} (h : w.ownsRow base e z v n xs) (hb : Below w.heap.size w w') : w'.ownsRow base e z v n xs := by
  refine ⟨h.1, ?_⟩
  rcases h.2 with hn | ⟨g, cap, cur, rfl, hbs, hg, rest⟩
  · exact .inl hn
  · exact .inr ⟨g, cap, cur, rfl, hbs, (hb.block g (Array.getElem?_eq_some_iff.1 hg).1).trans hg, rest⟩
theorem blk_ne_own {w : World} {base g m z : Nat} {e e' : TypeId} {cs : Array Value} {v : Value} {xs : List Value} (h : Blk w g e cs) (ho : w.ownsRow base e' z v m xs) (hne : e ≠ e') : some g ≠ v.ownBlock := by
  intro x
  rcases ho.2 with ⟨rfl, _⟩ | ⟨g', cap, cur', rfl, _, hg', _⟩
  · cases x
  · simp only [Value.ownBlock, Option.some.injEq] at x
    subst x
    rw [h] at hg'
    simp only [Option.some.injEq, Obj.cells.injEq] at hg'
    exact hne hg'.2.1
theorem row_ne_own3 {w : World} {base g n m z : Nat} {e e' : TypeId} {F : Nat → Value} {v : Value} {xs : List Value} (h : Row w g e n F) (ho : w.ownsRow base e' z v m xs) (hne : e ≠ e') : some g ≠ v.ownBlock := by
  obtain ⟨cur, hg, _⟩ := h
  exact blk_ne_own (cs := cur) hg ho hne
theorem BR.grown {w w' : World} {base m z : Nat} {e' : TypeId} {v : Value} {xs : List Value} {a b c : Value} {n : Nat} {f : Nat → Bool} (h : BR w a b c n f) (ho : w.ownsRow base e' z v m xs) (hne : 142 ≠ e') (hne3 : 3 ≠ e') (hg : w.grownBy w' v.ownBlock) : BR w' a b c n f := by
  obtain ⟨gw, ga, W, h1, h2, h3, h4, h5, h6⟩ := h
  exact ⟨gw, ga, W, h1, h2, h3, h4.grown hg (row_ne_own3 h4 ho hne), h5, h6.grown hg (row_ne_own3 h6 ho hne3)⟩

theorem own_setOther {w : World} {base z n : Nat} {e : TypeId} {v : Value} {xs : List Value} (h : w.ownsRow base e z v n xs) (a : Addr) (u : Value) (hne : some a.block ≠ v.ownBlock) : (w.setCell a u).ownsRow base e z v n xs := by
  refine ⟨h.1, ?_⟩
  rcases h.2 with hn | ⟨g, cap, cur, rfl, hbs, hg, rest⟩
  · exact .inl hn
  · refine .inr ⟨g, cap, cur, rfl, hbs, (Below.heap_setCell w a u g (fun e => hne (by rw [e]; rfl))).trans hg, rest⟩
theorem BR.setBlk {w : World} {a b c : Value} {n : Nat} {f : Nat → Bool} (h : BR w a b c n f) {g : Nat} {T : TypeId} {cs : Array Value} (hk : Blk w g T cs) (h1 : T ≠ 142) (h2 : T ≠ 3) (j : Nat) (u : Value) : BR (w.setCell ⟨g, j, none⟩ u) a b c n f := by
  obtain ⟨gw, ga, W, r1, r2, r3, r4, r5, r6⟩ := h
  refine ⟨gw, ga, W, r1, r2, r3, r4.setOther (fun e => ?_) _, r5, r6.setOther (fun e => ?_) _⟩
  · obtain ⟨cur, hc, _⟩ := r4
    have e' : gw = g := e
    subst e'
    unfold Blk at hk
    rw [hc] at hk
    simp only [Option.some.injEq, Obj.cells.injEq] at hk
    exact h1 hk.2.1.symm
  · obtain ⟨cur, hc, _⟩ := r6
    have e' : ga = g := e
    subst e'
    unfold Blk at hk
    rw [hc] at hk
    simp only [Option.some.injEq, Obj.cells.injEq] at hk
    exact h2 hk.2.1.symm
theorem BRs.snoc {w : World} {s lt : ByteArray} {k : Nat} {xs : List Value} {a b c : Value} (h : BRs w s lt k xs) (hx : xs.length = 3 * k) (hr : BR w a b c s.size (isLet s lt k)) : BRs w s lt (k + 1) (xs ++ [a, b, c]) := by
  intro j hj
  by_cases e : j = k
  · subst e
    refine ⟨a, b, c, ?_, ?_, ?_, hr⟩
    · rw [List.getElem?_append_right (by omega), show 3 * j - xs.length = 0 from by omega]; rfl
    · rw [List.getElem?_append_right (by omega), show 3 * j + 1 - xs.length = 1 from by omega]; rfl
    · rw [List.getElem?_append_right (by omega), show 3 * j + 2 - xs.length = 2 from by omega]; rfl
  · obtain ⟨a', b', c', h1, h2, h3, h4⟩ := h j (by omega)
    exact ⟨a', b', c', by rw [List.getElem?_append_left (by omega)]; exact h1, by rw [List.getElem?_append_left (by omega)]; exact h2, by rw [List.getElem?_append_left (by omega)]; exact h3, h4⟩

set_option maxRecDepth 10000 in
set_option maxHeartbeats 1000000 in
theorem newFew_any (s lt : ByteArray) (w : World) (hn : s.size ≤ 2000) (hl : lt.size ≤ 300) :
    Calls Try.prog 102 #[.string s, .string lt] w fun e w' => ∃ g v xs, e = .returned (.pointer (some ⟨g, 0, none⟩)) ∧ Blk w' g 141 #[.int .i64 (s.size : Int), .string lt, v] ∧ w'.ownsRow w.heap.size 73 3 v lt.size xs ∧ BRs w' s lt lt.size xs ∧ Below w.heap.size w w' := by
  obtain ⟨i0, hi, hz0, hz1, hz2⟩ := info_parts Try.infoBR3
  have hmf : ∀ (fn : Fn) (first cap : Array Value) (w : World), (Instr.makeFunc fn first cap).run Try.prog w = .ok (.func fn first cap) w := fun _ _ _ _ => rfl
  have hA := allocs3 w (.cells #[.string s] 9) (.cells #[.string lt] 9) (.cells #[.int .i64 (s.size : Int), .string lt, .slice none 0 0] 141)
  go_enter Try.func102, Try.ntmps102
  go_wp2_with fail
  generalize ((w.alloc (.cells #[.string s] 9)).alloc (.cells #[.string lt] 9)).alloc (.cells #[.int .i64 (s.size : Int), .string lt, .slice none 0 0] 141) = W0 at *
  obtain ⟨k0, k1, k2, hb0, hs0⟩ := hA
  obtain ⟨G, hG⟩ : ∃ G, G = w.heap.size := ⟨_, rfl⟩
  rw [← hG] at k0 k1 k2 hb0 hs0 ⊢
  have HG : Hid (G = w.heap.size) := hG
  clear hG
  go_loopw [14, 6] (fun i _ wr => ∃ k : Nat, k ≤ lt.size ∧ i = .int .i64 (k : Int) ∧ Blk wr G 9 #[.string s] ∧ Blk wr (G + 1) 9 #[.string lt] ∧ (∃ v xs, Blk wr (G + 1 + 1) 141 #[.int .i64 (s.size : Int), .string lt, v] ∧ wr.ownsRow G 73 3 v k xs ∧ Hid (xs.length = 3 * k) ∧ BRs wr s lt k xs) ∧ Below G w wr) (fun i _ _ => lt.size - (intOf i).toNat)
  case atStart => exact ⟨0, Nat.zero_le _, rfl, k0, k1, ⟨_, [], k2, World.ownsRow_nil _ _ _ _, rfl, fun j hj => by omega⟩, hb0⟩
  case round =>
    clear k0 k1 k2 hb0
    obtain ⟨k, hk, rfl, k0, k1, ⟨v, xs, k2, hown, HX, hbr⟩, hb⟩ := hrel
    by_cases hlt : k < lt.size
    · have m0 := k0.alloc (.cells #[.int .i64 (k : Int)] 3)
      have m1 := k1.alloc (.cells #[.int .i64 (k : Int)] 3)
      have m2 := k2.alloc (.cells #[.int .i64 (k : Int)] 3)
      have m3 := Blk.new wr 3 #[.int .i64 (k : Int)]
      have hown1 := own_below3 hown ((Below.refl _ _).alloc (Nat.le_refl _) (.cells #[.int .i64 (k : Int)] 3))
      have hbr1 := hbr.below ((Below.refl _ _).alloc (Nat.le_refl _) (.cells #[.int .i64 (k : Int)] 3))
      have hb1 := hb.alloc (by rw [HG.out]; exact hb.size) (.cells #[.int .i64 (k : Int)] 3)
      go_upto_region 5 with fail
      have hsV : (wr.alloc (.cells #[.int .i64 (k : Int)] 3)).heap.size = wr.heap.size + 1 := by simp
      generalize wr.alloc (.cells #[.int .i64 (k : Int)] 3) = V at *
      have m0' : Blk V.drew G 9 #[.string s] := m0
      have m1' : Blk V.drew (G + 1) 9 #[.string lt] := m1
      have m3' : Blk V.drew wr.heap.size 3 #[.int .i64 (k : Int)] := m3
      have m2' : Blk V.drew (G + 1 + 1) 141 #[.int .i64 (s.size : Int), .string lt, v] := m2
      have hown1' : V.drew.ownsRow G 73 3 v k xs := hown1
      have hclos : ∀ i, i < s.size → ∀ w1, Below V.drew.heap.size V.drew w1 → Calls Try.prog 106 (#[.int .i64 (i : Int)] ++ #[.pointer (some ⟨G, 0, none⟩), .pointer (some ⟨G + 1, 0, none⟩), .pointer (some ⟨wr.heap.size, 0, none⟩)]) w1 fun e w' => e = .returned (.bool (isLet s lt k i)) ∧ Below w1.heap.size w1 w' := fun i hi w1 hb1 => by
        rw [isLet_at s lt k i hi hlt]
        exact newFew1_any s lt i k G (G + 1) wr.heap.size w1 hi hlt (m0'.below hb1 m0.lt) (m1'.below hb1 m1.lt) (m3'.below hb1 m3.lt)
      have hc0 : V.cell? ⟨G, 0, none⟩ = some (.string s) := m0.cell 0
      have hc2 : V.cell? ⟨G + 1 + 1, 2, none⟩ = some v := m2.cell 2
      have hc0' : V.drew.cell? ⟨G, 0, none⟩ = some (.string s) := hc0
      have hc2' : V.drew.cell? ⟨G + 1 + 1, 2, none⟩ = some v := hc2
      have hltV0 := m0.lt
      have hltV2 := m2.lt
      have hGV : G ≤ V.drew.heap.size := Nat.le_of_lt hltV0
      go_region_law (first
          | (refine step_calls (args := #[.int .i64 (s.size : Int), .func (.func 106) #[] #[.pointer (some ⟨G, 0, none⟩), .pointer (some ⟨G + 1, 0, none⟩), .pointer (some ⟨wr.heap.size, 0, none⟩)]]) rfl rfl enterBitOf (by simp [Act.eval, Act.put]) (bitOf_any s.size 106 #[.pointer (some ⟨G, 0, none⟩), .pointer (some ⟨G + 1, 0, none⟩), .pointer (some ⟨wr.heap.size, 0, none⟩)] (isLet s lt k) V.drew (by omega) enterFew hclos) ?_; rintro e w2 ⟨gw, ga, rfl, ⟨W, hrw, hbits⟩, hra, hgw, hga, hb2⟩; refine ⟨_, rfl, ?_⟩; have hd0 : w2.cell? ⟨G, 0, none⟩ = some (.string s) := (m0'.below hb2 hltV0).cell 0; have hd2 : w2.cell? ⟨G + 1 + 1, 2, none⟩ = some v := (m2'.below hb2 hltV2).cell 2; have hd4 : ∀ o, (w2.alloc o).cell? ⟨G + 1 + 1, 2, none⟩ = some v := fun o => ((m2'.below hb2 hltV2).alloc o).cell 2)
          | (refine step_append_own rfl (.tmp 21) (.tmp 26) 139 rfl G 73 i0 (.agg #[.int .i64 0, .slice none 0 0, .slice none 0 0]) 3 56 Try.underlying139 hi hz0 hz1 hz2 rfl (by decide) v k xs rfl (own_below3 (own_below3 hown1' hb2) ((Below.refl _ _).alloc (Nat.le_refl _) _)) ⟨w2.heap.size, 0, none⟩ 1 1 [.int .i64 (s.size : Int), .slice (some ⟨gw, 0, none⟩) (s.size / 64 + 1) (s.size / 64 + 1), .slice (some ⟨ga, 0, none⟩) (s.size / 64 + 1) (s.size / 64 + 1)] rfl rfl (cell_three_new w2 _ _ _ _) (by simp; exact ⟨rfl, rfl, rfl⟩) (by unfold maxLen; omega) (by omega) (by have := hb2.size; simp; omega) ?_; intro v' w3 hown3 hgr3; obtain ⟨g', cap', rfl⟩ := own_form hown3 (by omega); have hk3 := ((m2'.below hb2 hltV2).alloc (.cells #[.int .i64 (s.size : Int), .slice (some ⟨gw, 0, none⟩) (s.size / 64 + 1) (s.size / 64 + 1), .slice (some ⟨ga, 0, none⟩) (s.size / 64 + 1) (s.size / 64 + 1)] 73)).grown hgr3 (blk_ne_own (m2'.below hb2 hltV2) (own_below3 hown1' hb2) (by decide)); have hc3 : w3.cell? ⟨G + 1 + 1, 2, none⟩ = some v := hk3.cell 2; have hf3 := hk3.free 2))
      all_goals (go_wp2_with fail)
      all_goals
        have hbA := (Below.refl w2.heap.size w2).alloc (Nat.le_refl _) (.cells #[.int .i64 (s.size : Int), .slice (some ⟨gw, 0, none⟩) (s.size / 64 + 1) (s.size / 64 + 1), .slice (some ⟨ga, 0, none⟩) (s.size / 64 + 1) (s.size / 64 + 1)] 73)
        have hownA := own_below3 (own_below3 hown1' hb2) hbA
        have hq0 := ((m0'.below hb2 hltV0).alloc (.cells #[.int .i64 (s.size : Int), .slice (some ⟨gw, 0, none⟩) (s.size / 64 + 1) (s.size / 64 + 1), .slice (some ⟨ga, 0, none⟩) (s.size / 64 + 1) (s.size / 64 + 1)] 73)).grown hgr3 (blk_ne_own (m0'.below hb2 hltV0) (own_below3 hown1' hb2) (by decide))
        have hq1 := ((m1'.below hb2 m1.lt).alloc (.cells #[.int .i64 (s.size : Int), .slice (some ⟨gw, 0, none⟩) (s.size / 64 + 1) (s.size / 64 + 1), .slice (some ⟨ga, 0, none⟩) (s.size / 64 + 1) (s.size / 64 + 1)] 73)).grown hgr3 (blk_ne_own (m1'.below hb2 m1.lt) (own_below3 hown1' hb2) (by decide))
        have hbr' : BRs V.drew s lt k xs := hbr1
        have hbrA := (hbr'.below hb2).below hbA
        have hnewA : BR _ _ _ _ s.size (isLet s lt k) := BR.below ⟨gw, ga, W, rfl, rfl, rfl, hrw, hbits, hra⟩ hbA
        have hbr3 : BRs w3 s lt (k + 1) (xs ++ [.int .i64 (s.size : Int), .slice (some ⟨gw, 0, none⟩) (s.size / 64 + 1) (s.size / 64 + 1), .slice (some ⟨ga, 0, none⟩) (s.size / 64 + 1) (s.size / 64 + 1)]) := by
          refine BRs.snoc (fun j hj => ?_) HX.out (hnewA.grown hownA (by decide) (by decide) hgr3)
          obtain ⟨a', b', c', r1, r2, r3, r4⟩ := hbrA j hj
          exact ⟨a', b', c', r1, r2, r3, r4.grown hownA (by decide) (by decide) hgr3⟩
        have hbr4 : BRs (w3.setCell ⟨G + 1 + 1, 2, none⟩ (.slice (some ⟨g', 0, none⟩) (k + 1) cap')) s lt (k + 1) (xs ++ [.int .i64 (s.size : Int), .slice (some ⟨gw, 0, none⟩) (s.size / 64 + 1) (s.size / 64 + 1), .slice (some ⟨ga, 0, none⟩) (s.size / 64 + 1) (s.size / 64 + 1)]) := fun j hj => by
          obtain ⟨a', b', c', r1, r2, r3, r4⟩ := hbr3 j hj
          exact ⟨a', b', c', r1, r2, r3, r4.setBlk hk3 (by decide) (by decide) _ _⟩
        have hgw0 : w.heap.size ≤ G := by rw [HG.out]; exact Nat.le_refl _
        have hsV2 : V.drew.heap.size ≤ w2.heap.size := hb2.size
        have hb1' : Below G w V.drew := hb1.drew
        have hb3 : Below G w w3 := ((hb1'.trans (hb2.mono hGV)).alloc (Nat.le_trans hGV hsV2) _).grown hgr3 (by simp; omega) (fun g hg => (hownA.lt g hg).1)
      all_goals go_roundw
      all_goals first
        | exact ⟨k + 1, by omega, by go_num, hq0.setOther (by show G ≠ G + 1 + 1; omega) _, hq1.setOther (by show G + 1 ≠ G + 1 + 1; omega) _, ⟨_, _, hk3.set 2 _, own_setOther hown3 _ _ (blk_ne_own hk3 hown3 (by decide)), (by show (xs ++ [_, _, _]).length = 3 * (k + 1); rw [List.length_append, HX.out]; simp only [List.length_cons, List.length_nil]; omega), hbr4⟩, hb3.setCell (by show G ≤ G + 1 + 1; omega) _⟩
        | (simp [intOf]; omega)
    · have hkl : k = lt.size := by omega
      subst hkl
      go_wp2
      go_ret
      rw [HG.out] at hown hb
      exact ⟨G + 1 + 1, v, xs, rfl, k2, hown, hbr, hb⟩
end Go.Proofs.Ytkebgnpifmcmaaa
