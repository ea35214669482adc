import Derived.Test.YtkebgnpifmcmaabGreatGF
namespace Go.Proofs.YtkebgnpifmcmaabGreat
open Go.RowKit

/-- Only one of the blocks that were there has changed. -/
def OnlyX (g : Nat) (w w' : World) : Prop := (∀ b, b < w.heap.size → b ≠ g → w'.heap[b]? = w.heap[b]?) ∧ Below g w w'
theorem OnlyX.refl (g : Nat) (w : World) : OnlyX g w w := ⟨fun _ _ _ => rfl, Below.refl _ _⟩
theorem OnlyX.trans {g : Nat} {a b c : World} (h : OnlyX g a b) (h' : OnlyX g b c) : OnlyX g a c := ⟨fun x hx hn => (h'.1 x (Nat.lt_of_lt_of_le hx h.2.size) hn).trans (h.1 x hx hn), h.2.trans h'.2⟩
theorem Only.x {g : Nat} {w w' : World} (h : Only g w w') : OnlyX g w w' := ⟨fun b _ hn => h.2.1 b hn, h.2.2⟩
theorem below_x {g : Nat} {w w' : World} (h : Below w.heap.size w w') (hg : g ≤ w.heap.size) : OnlyX g w w' := ⟨fun b hb _ => h.block b hb, h.mono hg⟩
theorem Blk.onlyX {g b : Nat} {w w' : World} {T : TypeId} {cs : Array Value} (h : Blk w b T cs) (ho : OnlyX g w w') (hlt : b < w.heap.size) (hne : b ≠ g) : Blk w' b T cs := h.block (ho.1 b hlt hne)

theorem OnlyX.setNew {g : Nat} {w w' : World} (h : OnlyX g w w') {a : Addr} (ha : w.heap.size ≤ a.block) (hg : g ≤ a.block) (u : Value) : OnlyX g w (w'.setCell a u) :=
  ⟨fun b hb hn => (Below.heap_setCell w' a u b (by omega)).trans (h.1 b hb hn), h.2.setCell hg u⟩

/-- What the reading of few letters comes to. -/
def fLet (r : ByteArray × Bool) : ByteArray := (rTake (rByte r).2 (rByte r).1).1
def fSt (r : ByteArray × Bool) (n : Nat) : Nat → ByteArray × Bool
  | 0 => (rTake (rByte r).2 (rByte r).1).2
  | k + 1 => (rTake (fSt r n k) ((n + 7) / 8)).2
def fPk (r : ByteArray × Bool) (n k : Nat) : ByteArray := (rTake (fSt r n k) ((n + 7) / 8)).1
def fVal (r : ByteArray × Bool) (n : Nat) : Nat → Nat → UInt8
  | 0, _ => 0
  | k + 1, i => if strBit (fPk r n k) i = true then (tx (fLet r)).getD k 0 else fVal r n k i
def fText (r : ByteArray × Bool) (n : Nat) : List UInt8 := (List.range n).map (fVal r n (fLet r).size)
theorem fText_length (r : ByteArray × Bool) (n : Nat) : (fText r n).length = n := by simp [fText]
theorem fText_get (r : ByteArray × Bool) (n j : Nat) (h : j < n) : (fText r n).getD j 0 = fVal r n (fLet r).size j := by simp [fText, h]

theorem rTake_size (r : ByteArray × Bool) (c : Nat) : (rTake r c).1.size ≤ c := by
  unfold rTake; split
  · exact Nat.zero_le _
  · simp [ByteArray.size_extract]; omega
theorem rTake_full (r : ByteArray × Bool) (c : Nat) (h : (rTake r c).2.2 = false) : (rTake r c).1.size = c := by
  unfold rTake at h ⊢; split at h
  · cases h
  · rename_i hn; rw [if_neg hn]; simp [ByteArray.size_extract]; omega

theorem BR.setBytes {w : World} {a b c : Value} {n m : Nat} {f : Nat → Bool} (h : BR w a b c n f) {g : Nat} {F : Nat → Value} (hk : Row w g 5 m F) (j : Nat) (u : Value) : BR (w.setCell ⟨g, j, none⟩ u) a b c n f := by
  obtain ⟨gw, ga, W, e1, e2, e3, h1, h2, h3⟩ := h
  have hne : ∀ {x : Nat} {T : TypeId} {q : Nat} {F' : Nat → Value}, Row w x T q F' → T ≠ 5 → x ≠ g := by
    intro x T q F' hr hT e
    subst e
    obtain ⟨c1, q1, _⟩ := hr
    obtain ⟨c2, q2, _⟩ := hk
    rw [q1] at q2
    simp only [Option.some.injEq, Obj.cells.injEq] at q2
    exact hT q2.2.1
  exact ⟨gw, ga, W, e1, e2, e3, h1.setOther (hne h1 (by decide)) _, h2, h3.setOther (hne h3 (by decide)) _⟩

set_option maxRecDepth 10000 in
set_option maxHeartbeats 1000000 in
theorem readFew_any (g n : Nat) (r : ByteArray × Bool) (w : World) (hn : n ≤ 2000) (h : RdrP w g r) :
    Calls Tryz.prog 118 #[.pointer (some ⟨g, 0, none⟩), .int .i64 (n : Int)] w fun e w' => ((e = .returned (.string (bs (fText r n))) ∧ RdrP w' g (fSt r n (fLet r).size)) ∨ (e = .returned (.string ByteArray.empty) ∧ ∃ k, k < (fLet r).size ∧ (fSt r n (k + 1)).2 = true ∧ RdrP w' g (fSt r n (k + 1)))) ∧ OnlyX g w w' := by
  obtain ⟨i0, hi, hz0, hz1, hz2⟩ := info_parts Tryz.info5
  have hgl : g < w.heap.size := (Array.getElem?_eq_some_iff.1 h).1
  go_enter Tryz.func118, Tryz.ntmps118
  go_wp2_with (at_make; refine wpList_make_full _ rfl _ _ 75 rfl w.heap.size 5 i0 (.int .u8 0) 1 Tryz.underlying75 hi hz0 hz1 .i64 .i64 _ _ n rfl rfl (by omega) (by omega) (by rw [hz2]; omega) (by unfold maxLen; omega) (by omega) ?_; intro w1 hown hgr)
  have hrow := Row.made hown
  have hb1 := below_made hgr
  have hsz1 := hrow.lt
  have hR1 : RdrP w1 g r := Blk.below h hb1 hgl
  have hX1 : OnlyX g w w1 := below_x hb1 (by omega)
  clear hown hgr h hb1
  obtain ⟨G, hG⟩ : ∃ G, G = w.heap.size := ⟨_, rfl⟩
  rw [← hG] at hrow hsz1 hgl ⊢
  have hwG : w.heap.size ≤ G := by omega
  clear hG
  have HBC : Hid _ := byte_any g r w1 hR1
  have hbl := rByte_lt r
  go_wp2_with fail
  refine Calls.mono HBC.out ?_
  clear HBC hR1
  rintro en w2 ⟨rfl, hR2, hO2⟩
  have HTC : Hid _ := take_any g (rByte r).1 (rByte r).2 w2 hR2
  have hrow2 := hrow.block (hO2.2.1 G (by omega))
  have hX2 := hX1.trans hO2.x
  clear hrow hX1 hO2 hR2
  go_wp2_with fail
  refine Calls.mono HTC.out ?_
  clear HTC
  rintro en w3 ⟨rfl, hR3, hO3⟩
  have hrow3 := hrow2.block (hO3.2.1 G (by omega))
  have hX3 := hX2.trans hO3.x
  clear hrow2 hX2 hO3
  have hR3' : RdrP w3 g (fSt r n 0) := hR3
  clear hR3
  have hm256 : (fLet r).size < 256 := Nat.lt_of_le_of_lt (rTake_size _ _) hbl
  have HFT : Hid (fText r n = (List.range n).map (fVal r n (fLet r).size)) := rfl
  have HV : Hid (∀ k i, fVal r n (k + 1) i = if strBit (fPk r n k) i = true then (tx (fLet r)).getD k 0 else fVal r n k i) := fun _ _ => rfl
  have HS : Hid (∀ k, fSt r n (k + 1) = (rTake (fSt r n k) ((n + 7) / 8)).2) := fun _ => rfl
  have HP : Hid (∀ k, fPk r n k = (rTake (fSt r n k) ((n + 7) / 8)).1) := fun _ => rfl
  rw [show (rTake (rByte r).2 (rByte r).1).1 = fLet r from rfl]
  generalize hLT : fLet r = LT at *
  have HLT : Hid (fLet r = LT) := hLT
  clear hLT
  go_wp2_with fail
  go_loopw [19, 7, 8, 9, 10] (fun iv _ _ _ _ wr => ∃ k : Nat, k ≤ LT.size ∧ iv = .int .i64 (k : Int) ∧ Row wr G 5 n (IB (fVal r n k)) ∧ RdrP wr g (fSt r n k) ∧ OnlyX g w wr) (fun iv _ _ _ _ _ => LT.size - (intOf iv).toNat)
  case atStart => exact ⟨0, Nat.zero_le _, rfl, hrow3, hR3', hX3⟩
  case round =>
    clear hrow3 hR3' hX3
    obtain ⟨k, hk, rfl, hrow, hR, hX⟩ := hrel
    by_cases hlt : k < LT.size
    · go_wp2_with fail
      refine (packedSize_any n wr (by omega)).mono ?_
      rintro e w4 ⟨rfl, rfl⟩
      have HTC : Hid _ := take_any g ((n + 7) / 8) (fSt r n k) w4 hR
      clear hR
      rw [← HP.out k, ← HS.out k] at HTC
      go_wp2_with fail
      refine Calls.mono HTC.out ?_
      clear HTC
      rintro en w5 ⟨rfl, hR5, hO5⟩
      have hrow5 := hrow.block (hO5.2.1 G (by omega))
      have hX5 := hX.trans hO5.x
      clear hrow hX hO5
      have hc1 : w5.cell? ⟨g, 1, none⟩ = some (.bool (fSt r n (k + 1)).2) := Blk.cell hR5 1
      by_cases hsh : (fSt r n (k + 1)).2 = true
      · rw [hsh] at hc1
        go_wp2_with fail
        go_ret
        exact ⟨.inr ⟨rfl, k, by rw [HLT.out]; exact hlt, hsh, hR5⟩, hX5⟩
      · have hsh' : (fSt r n (k + 1)).2 = false := by simpa using hsh
        rw [hsh'] at hc1
        have hfull : (n + 7) / 8 ≤ (fPk r n k).size := by
          rw [HP.out k, rTake_full _ _ (by rw [← HS.out k]; exact hsh')]; exact Nat.le_refl _
        clear hsh hsh'
        have HUC : Hid _ := unpack_any (fPk r n k) n w5 (by omega) hfull
        clear hfull
        go_wp2_with fail
        refine Calls.mono HUC.out ?_
        clear HUC hc1
        rintro en w6 ⟨a, b, c, rfl, hBR, hb6⟩
        obtain ⟨gw, ga, e1, e2, e3⟩ : ∃ gw ga, a = .int .i64 (n : Int) ∧ b = .slice (some ⟨gw, 0, none⟩) (n / 64 + 1) (n / 64 + 1) ∧ c = .slice (some ⟨ga, 0, none⟩) (n / 64 + 1) (n / 64 + 1) := by
          obtain ⟨gw, ga, W, h1, h2, h3, _⟩ := hBR
          exact ⟨gw, ga, h1, h2, h3⟩
        subst e1 e2 e3
        have hsz5 := hX5.2.size
        have hrl := hrow5.lt
        have hrow6 := hrow5.below hb6 hrl
        have hX6 := hX5.trans (below_x hb6 (by omega))
        have hR6 : RdrP w6 g (fSt r n (k + 1)) := Blk.below hR5 hb6 (by omega)
        clear hrow5 hX5 hR5
        have HVK : Hid (∀ i, fVal r n (k + 1) i = if strBit (fPk r n k) i = true then (tx LT).getD k 0 else fVal r n k i) := HV.out k
        have hk6 := Blk.new w6 70 #[.int .i64 (n : Int), .slice (some ⟨gw, 0, none⟩) (n / 64 + 1) (n / 64 + 1), .slice (some ⟨ga, 0, none⟩) (n / 64 + 1) (n / 64 + 1)]
        have hb7 : Below w6.heap.size w6 (w6.alloc (.cells #[.int .i64 (n : Int), .slice (some ⟨gw, 0, none⟩) (n / 64 + 1) (n / 64 + 1), .slice (some ⟨ga, 0, none⟩) (n / 64 + 1) (n / 64 + 1)] 70)) := (Below.refl _ _).alloc (Nat.le_refl _) _
        have hg6 : G < w6.heap.size := hrow6.lt
        have hX10 := hX6.trans (below_x hb7 (by omega))
        have hrow10 := hrow6.below hb7 hg6
        have hR10 : RdrP _ g (fSt r n (k + 1)) := Blk.below hR6 hb7 (by omega)
        have hBR10 := hBR.below hb7
        have hb6s := hb6.size
        clear hBR hrow6 hR6 hX6 hb7 hb6
        go_wp2_with fail
        generalize w6.alloc (.cells #[.int .i64 (n : Int), .slice (some ⟨gw, 0, none⟩) (n / 64 + 1) (n / 64 + 1), .slice (some ⟨ga, 0, none⟩) (n / 64 + 1) (n / 64 + 1)] 70) = W7 at *
        have hG6 : G ≠ w6.heap.size := by omega
        have hg6' : g ≠ w6.heap.size := by omega
        have hx6 : g ≤ w6.heap.size := by omega
        have hw6 : w.heap.size ≤ w6.heap.size := by omega
        generalize w6.heap.size = g6 at *
        generalize n / 64 + 1 = nw at *
        generalize strBit (fPk r n k) = FB at *
        go_loopw [35, 10] (fun iv _ wx => ∃ i : Nat, i ≤ n ∧ iv = .int .i64 (i : Int) ∧ (∃ tf, Row wx G 5 n (IB tf) ∧ Hid (∀ j, j < i → tf j = fVal r n (k + 1) j) ∧ Hid (∀ j, i ≤ j → tf j = fVal r n k j)) ∧ Blk wx g6 70 #[.int .i64 (n : Int), .slice (some ⟨gw, 0, none⟩) nw nw, .slice (some ⟨ga, 0, none⟩) nw nw] ∧ BR wx (.int .i64 (n : Int)) (.slice (some ⟨gw, 0, none⟩) nw nw) (.slice (some ⟨ga, 0, none⟩) nw nw) n FB ∧ RdrP wx g (fSt r n (k + 1)) ∧ OnlyX g w wx) (fun iv _ _ => n - (intOf iv).toNat)
        case atStart => exact ⟨0, Nat.zero_le _, rfl, ⟨_, hrow10, fun j hj => by omega, fun j hj => rfl⟩, hk6, hBR10, hR10, hX10⟩
        case round =>
          clear hrow10 hk6 hBR10 hR10 hX10
          obtain ⟨i, hi2, rfl, ⟨tf, hrow, HT1, HT2⟩, hk7, hBR, hR, hX⟩ := hrel
          by_cases hlt2 : i < n
          · have hc0 : wr.cell? ⟨g6, 0, none⟩ = some (.int .i64 (n : Int)) := hk7.cell 0
            have hc1 : wr.cell? ⟨g6, 1, none⟩ = some (.slice (some ⟨gw, 0, none⟩) nw nw) := hk7.cell 1
            have hc2 : wr.cell? ⟨g6, 2, none⟩ = some (.slice (some ⟨ga, 0, none⟩) nw nw) := hk7.cell 2
            have HBC : Hid _ := hBR.bit (by omega) hlt2
            go_wp2_with fail
            refine Calls.mono HBC.out ?_
            clear HBC hc0 hc1 hc2
            rintro en w9 ⟨rfl, hb9⟩
            have hgw : g < wr.heap.size := (Array.getElem?_eq_some_iff.1 hR).1
            have hrow9 := hrow.below hb9 hrow.lt
            have hk9 := hk7.below hb9 hk7.lt
            have hBR9 := hBR.below hb9
            have hR9 : RdrP w9 g (fSt r n (k + 1)) := Blk.below hR hb9 hgw
            have hX9 := hX.trans (below_x hb9 (by omega))
            clear hrow hk7 hBR hR hX hb9
            have HVI : Hid (fVal r n (k + 1) i = if FB i = true then (tx LT).getD k 0 else fVal r n k i) := HVK.out i
            have hci := hrow9.cell hlt2
            have hfi := hrow9.free i
            have hq : (tx LT).getD k 0 = LT[k] := tx_getD LT k hlt
            cases hFB : FB i with
            | true =>
              have HVI' : Hid (fVal r n (k + 1) i = LT[k]) := by
                show _ = _
                rw [HVI.out, if_pos hFB, hq]
              clear HVI hq hFB
              go_wp2
              go_roundw
              case rel =>
                exact ⟨i + 1, by omega, by go_num, ⟨_, hrow9.setB i LT[k], upd_next HT1.out HVI'.out.symm, fun j hj => by rw [upd_ne _ _ _ (by omega)]; exact HT2.out j (by omega)⟩, hk9.setOther (by show g6 ≠ G; omega) _, hBR9.setBytes hrow9 i _, Blk.setOther hR9 (by show g ≠ G; omega) _, hX9.setNew (by show w.heap.size ≤ G; omega) (by show g ≤ G; omega) _⟩
              case measure => simp [intOf]; omega
            | false =>
              have HVI' : Hid (fVal r n (k + 1) i = fVal r n k i) := by
                show _ = _
                rw [HVI.out, if_neg (by rw [hFB]; decide)]
              clear HVI hq hFB
              go_wp2
              go_roundw
              case rel =>
                exact ⟨i + 1, by omega, by go_num, ⟨tf, hrow9, fun j hj => by
                  by_cases e : j = i
                  · rw [e, HVI'.out]; exact HT2.out i (Nat.le_refl _)
                  · exact HT1.out j (by omega), fun j hj => HT2.out j (by omega)⟩, hk9, hBR9, hR9, hX9⟩
              case measure => simp [intOf]; omega
          · have hin : i = n := by omega
            subst hin
            go_wp2
            go_roundw
            case rel => exact ⟨k + 1, by omega, by go_num, hrow.congr (fun j hj => by rw [IB_at, IB_at, HT1.out j hj]), hR, hX⟩
            case measure => simp [intOf]; omega
    · have hkm : k = LT.size := by omega
      subst hkm
      have hcv : ∀ cap, (convert 75 9 (.slice (some ⟨G, 0, none⟩) n cap)).run Tryz.prog wr = .ok (.string (bs (fText r n))) wr := by
        intro cap
        have hl := fText_length r n
        have hrow' : Row wr G 5 (fText r n).length (IB (fVal r n LT.size)) := by rw [hl]; exact hrow
        have hc := conv_row (cap := cap) hrow' (fun j hj => by rw [fText_get r n j (by omega), HLT.out])
        rw [hl] at hc
        exact hc
      go_wp2
      go_ret
      exact ⟨.inl ⟨rfl, by rw [HLT.out]; exact hR⟩, hX⟩
end Go.Proofs.YtkebgnpifmcmaabGreat

namespace Go.Proofs.YtkebgnpifmcmaabGreat
open Go.RowKit

theorem rTake_short (r : ByteArray × Bool) (c : Nat) (h : r.2 = true) : (rTake r c).2.2 = true := by
  unfold rTake; rw [if_pos (.inl h)]
theorem fSt_short (r : ByteArray × Bool) (n k j : Nat) (h : (fSt r n k).2 = true) : (fSt r n (k + j)).2 = true := by
  induction j with
  | zero => exact h
  | succ j ih => exact rTake_short _ _ ih

/-- What a side's bytes say. -/
def sEnd (b : ByteArray) : Nat := (rNum (b, false)).1
def sKind (b : ByteArray) : Nat := (rByte (rNum (b, false)).2).1
def sRd (b : ByteArray) : ByteArray × Bool := (rByte (rNum (b, false)).2).2
def sOk (b : ByteArray) (n : Nat) : Prop := (sKind b = 0 ∧ (fSt (sRd b) n (fLet (sRd b)).size).2 = false) ∨ (sKind b = 1 ∧ (rTake (sRd b) n).2.2 = false)
def sText (b : ByteArray) (n : Nat) : ByteArray := if sKind b = 0 then bs (fText (sRd b) n) else (rTake (sRd b) n).1

/-- The end of readSide: the answer is copied and told. -/
def SideRes (b : ByteArray) (n : Nat) (w : World) (e : Ending) (w' : World) : Prop := ((sOk b n ∧ e = .returned (.tuple #[.agg #[.string (sText b n), .int .i64 (sEnd b : Int)], .bool true])) ∨ (¬ sOk b n ∧ ∃ S, e = .returned (.tuple #[.agg #[.string S, .int .i64 (sEnd b : Int)], .bool false]))) ∧ Below w.heap.size w w'

set_option maxRecDepth 10000 in
set_option maxHeartbeats 1000000 in
theorem readSide_any (b : ByteArray) (n : Nat) (w : World) (hn : n ≤ 2000) : Calls Tryz.prog 85 #[.string b, .int .i64 (n : Int)] w (SideRes b n w) := by
  obtain ⟨G, hG⟩ : ∃ G, G = w.heap.size := ⟨_, rfl⟩
  have k0 := (Blk.new w 118 #[.string { data := #[] }, .int .i64 0]).alloc (.cells #[.string b, .bool false] 161)
  have k1 := Blk.new (w.alloc (.cells #[.string { data := #[] }, .int .i64 0] 118)) 161 #[.string b, .bool false]
  have hb0 : Below w.heap.size w ((w.alloc (.cells #[.string { data := #[] }, .int .i64 0] 118)).alloc (.cells #[.string b, .bool false] 161)) := ((Below.refl _ _).alloc (Nat.le_refl _) _).alloc (by simp) _
  rw [show (w.alloc (.cells #[.string { data := #[] }, .int .i64 0] 118)).heap.size = w.heap.size + 1 from by simp] at k1
  go_enter Tryz.func85, Tryz.ntmps85
  go_wp2_with fail
  generalize (w.alloc (.cells #[.string { data := #[] }, .int .i64 0] 118)).alloc (.cells #[.string b, .bool false] 161) = W0 at *
  rw [← hG] at k0 k1 hb0 ⊢
  have HG : Hid (G = w.heap.size) := hG
  clear hG
  have HNC : Hid _ := number_any (G + 1) (b, false) W0 k1
  have hl1 := rNum_lt (b, false)
  have hk1l := k1.lt
  refine Calls.mono HNC.out ?_
  clear HNC
  rintro en w1 ⟨rfl, hR1, hO1⟩
  have k01 := k0.only hO1 (by omega)
  have hb1 := hO1.below hb0 (by omega)
  have hs1 := hO1.1
  rw [show (rNum (b, false)).1 = sEnd b from rfl] at *
  have hq1 : G + 1 < w1.heap.size := by omega
  clear k0 k1 hb0 hO1 hs1 hk1l
  generalize hEN : sEnd b = EN at *
  have HEN : Hid (sEnd b = EN) := hEN
  clear hEN
  have k2 := Blk.new w1 118 #[.string { data := #[] }, .int .i64 (EN : Int)]
  have k02 := k01.alloc (.cells #[.string { data := #[] }, .int .i64 (EN : Int)] 118)
  have hR2 : RdrP (w1.alloc (.cells #[.string { data := #[] }, .int .i64 (EN : Int)] 118)) (G + 1) (rNum (b, false)).2 := Blk.alloc hR1 _
  have hb2 : Below G w (w1.alloc (.cells #[.string { data := #[] }, .int .i64 (EN : Int)] 118)) := hb1.alloc (by omega) _
  clear k01 hb1 hR1
  go_wp2_with fail
  generalize w1.alloc (.cells #[.string { data := #[] }, .int .i64 (EN : Int)] 118) = W2 at *
  generalize w1.heap.size = g2 at *
  have HBC : Hid _ := byte_any (G + 1) (rNum (b, false)).2 W2 hR2
  have hl2 := rByte_lt (rNum (b, false)).2
  refine Calls.mono HBC.out ?_
  clear HBC
  rintro en w3 ⟨rfl, hR3, hO3⟩
  have k03 := k02.only hO3 (by omega)
  have k23 := k2.only hO3 (by omega)
  have hb3 := hO3.below hb2 (by omega)
  have hR3' : RdrP w3 (G + 1) (sRd b) := hR3
  rw [show (rByte (rNum (b, false)).2).1 = sKind b from rfl] at *
  clear k02 k2 hb2 hO3 hR2 hR3
  have HOK : Hid (sOk b n ↔ ((sKind b = 0 ∧ (fSt (sRd b) n (fLet (sRd b)).size).2 = false) ∨ (sKind b = 1 ∧ (rTake (sRd b) n).2.2 = false))) := Iff.rfl
  have HTX : Hid (sText b n = if sKind b = 0 then bs (fText (sRd b) n) else (rTake (sRd b) n).1) := rfl
  generalize sRd b = RD at *
  generalize sKind b = KD at *
  by_cases h0 : KD = 0
  · subst h0
    have HFC : Hid _ := readFew_any (G + 1) n RD w3 hn hR3'
    go_wp2_with fail
    refine Calls.mono HFC.out ?_
    clear HFC hR3'
    rintro en w4 ⟨hres, hX4⟩
    have k04 := k03.onlyX hX4 k03.lt (by omega)
    have k24 := k23.onlyX hX4 k23.lt (by omega)
    have hb4 : Below G w w4 := hb3.trans (hX4.2.mono (by omega))
    clear k03 k23 hb3 hX4
    have hres' : ∃ ST SH, en = .returned (.string ST) ∧ w4.cell? ⟨G + 1, 1, none⟩ = some (.bool SH) ∧ Hid (sOk b n ↔ SH = false) ∧ Hid (SH = false → sText b n = ST) := by
      rcases hres with ⟨rfl, hR4⟩ | ⟨rfl, k, hk, hsh, hR4⟩
      · refine ⟨_, _, rfl, Blk.cell hR4 1, ?_, fun _ => HTX.out⟩
        show _ ↔ _
        rw [HOK.out]; simp
      · refine ⟨_, true, rfl, ?_, ?_, fun h => by cases h⟩
        · have := Blk.cell hR4 1
          rw [hsh] at this
          exact this
        · show _ ↔ _
          rw [HOK.out]
          have h2 := fSt_short RD n (k + 1) ((fLet RD).size - (k + 1)) hsh
          rw [show k + 1 + ((fLet RD).size - (k + 1)) = (fLet RD).size from by omega] at h2
          rw [h2]; simp
    clear hres HOK HTX
    obtain ⟨ST, SH, rfl, hr1, HO1, HT1⟩ := hres'
    have hd0 : w4.cell? ⟨g2, 0, none⟩ = some (.string { data := #[] }) := k24.cell 0
    have hd1 : w4.cell? ⟨g2, 1, none⟩ = some (.int .i64 (EN : Int)) := k24.cell 1
    have he0 : w4.cell? ⟨G, 0, none⟩ = some (.string { data := #[] }) := k04.cell 0
    have he1 : w4.cell? ⟨G, 1, none⟩ = some (.int .i64 0) := k04.cell 1
    have hf0 := k04.free 0
    have hf1 := k04.free 1
    have hfg := k24.free 0
    have hgg : G ≠ g2 := by omega
    have hgg' : g2 ≠ G := by omega
    have HKK : Hid (Blk ((w4.setCell ⟨g2, 0, none⟩ (.string ST)).setCell ⟨G, 0, none⟩ (.string ST) |>.setCell ⟨G, 1, none⟩ (.int .i64 (EN : Int))) G 118 #[.string ST, .int .i64 (EN : Int)]) := ((k04.setOther (a := ⟨g2, 0, none⟩) hgg (.string ST)).set 0 (.string ST)).set 1 (.int .i64 (EN : Int))
    have HBB : Hid (Below G w ((w4.setCell ⟨g2, 0, none⟩ (.string ST)).setCell ⟨G, 0, none⟩ (.string ST) |>.setCell ⟨G, 1, none⟩ (.int .i64 (EN : Int)))) := ((hb4.setCell (by show G ≤ g2; omega) _).setCell (Nat.le_refl _) _).setCell (Nat.le_refl _) _
    clear k04 k24 hb4
    go_wp2_with fail
    go_region
    all_goals go_wp2
    refine bodyPost_ret (v := .tuple #[.agg #[.string ST, .int .i64 (EN : Int)], .bool (!SH)]) (results_cell_tmp_row (ty := 118) rfl _ _ G #[.string ST, .int .i64 (EN : Int)] (.bool (!SH)) rfl rfl (run_loadVar_row _ G 118 118 #[.string ST, .int .i64 (EN : Int)] (0, 0) _ (show ((w4.setCell ⟨g2, 0, none⟩ (.string ST)).setCell ⟨G, 0, none⟩ (.string ST) |>.setCell ⟨G, 1, none⟩ (.int .i64 (EN : Int))).drew.heap[G]? = _ from HKK.out) Tryz.underlying118 rfl infoTr)) rfl ⟨?_, by rw [← HG.out]; exact HBB.out.drew⟩
    cases SH with
    | true => exact .inr ⟨fun h => Bool.noConfusion (HO1.out.1 h), ST, by rw [HEN.out]; rfl⟩
    | false => exact .inl ⟨HO1.out.2 rfl, by rw [HEN.out, HT1.out rfl]; rfl⟩
  · by_cases h1 : KD = 1
    · subst h1
      have HTC : Hid _ := take_any (G + 1) n RD w3 hR3'
      go_wp2_with fail
      refine Calls.mono HTC.out ?_
      clear HTC hR3'
      rintro en w4 ⟨rfl, hR4, hO4⟩
      have k04 := k03.only hO4 (by omega)
      have k24 := k23.only hO4 (by omega)
      have hb4 := hO4.below hb3 (by omega)
      clear k03 k23 hb3 hO4
      have hd0 : w4.cell? ⟨g2, 0, none⟩ = some (.string { data := #[] }) := k24.cell 0
      have hd1 : w4.cell? ⟨g2, 1, none⟩ = some (.int .i64 (EN : Int)) := k24.cell 1
      have he0 : w4.cell? ⟨G, 0, none⟩ = some (.string { data := #[] }) := k04.cell 0
      have he1 : w4.cell? ⟨G, 1, none⟩ = some (.int .i64 0) := k04.cell 1
      have hf0 := k04.free 0
      have hf1 := k04.free 1
      have hfg := k24.free 0
      have hgg : G ≠ g2 := by omega
      have hgg' : g2 ≠ G := by omega
      have hr1 : w4.cell? ⟨G + 1, 1, none⟩ = some (.bool (rTake RD n).2.2) := Blk.cell hR4 1
      have HO1 : Hid (sOk b n ↔ (rTake RD n).2.2 = false) := by
        show _ ↔ _
        rw [HOK.out]; simp
      have HT1 : Hid ((rTake RD n).2.2 = false → sText b n = (rTake RD n).1) := fun _ => HTX.out
      clear HOK HTX hR4
      generalize (rTake RD n).2.2 = SH at *
      generalize (rTake RD n).1 = ST at *
      have HKK : Hid (Blk ((w4.setCell ⟨g2, 0, none⟩ (.string ST)).setCell ⟨G, 0, none⟩ (.string ST) |>.setCell ⟨G, 1, none⟩ (.int .i64 (EN : Int))) G 118 #[.string ST, .int .i64 (EN : Int)]) := ((k04.setOther (a := ⟨g2, 0, none⟩) hgg (.string ST)).set 0 (.string ST)).set 1 (.int .i64 (EN : Int))
      have HBB : Hid (Below G w ((w4.setCell ⟨g2, 0, none⟩ (.string ST)).setCell ⟨G, 0, none⟩ (.string ST) |>.setCell ⟨G, 1, none⟩ (.int .i64 (EN : Int)))) := ((hb4.setCell (by show G ≤ g2; omega) _).setCell (Nat.le_refl _) _).setCell (Nat.le_refl _) _
      clear k04 k24 hb4
      go_wp2_with fail
      go_region
      all_goals go_wp2
      refine bodyPost_ret (v := .tuple #[.agg #[.string ST, .int .i64 (EN : Int)], .bool (!SH)]) (results_cell_tmp_row (ty := 118) rfl _ _ G #[.string ST, .int .i64 (EN : Int)] (.bool (!SH)) rfl rfl (run_loadVar_row _ G 118 118 #[.string ST, .int .i64 (EN : Int)] (0, 0) _ (show ((w4.setCell ⟨g2, 0, none⟩ (.string ST)).setCell ⟨G, 0, none⟩ (.string ST) |>.setCell ⟨G, 1, none⟩ (.int .i64 (EN : Int))).drew.heap[G]? = _ from HKK.out) Tryz.underlying118 rfl infoTr)) rfl ⟨?_, by rw [← HG.out]; exact HBB.out.drew⟩
      cases SH with
      | true => exact .inr ⟨fun h => Bool.noConfusion (HO1.out.1 h), ST, by rw [HEN.out]; rfl⟩
      | false => exact .inl ⟨HO1.out.2 rfl, by rw [HEN.out, HT1.out rfl]; rfl⟩
    · have k04 := k03
      have k24 := k23
      have hd0 : w3.cell? ⟨g2, 0, none⟩ = some (.string { data := #[] }) := k24.cell 0
      have hd1 : w3.cell? ⟨g2, 1, none⟩ = some (.int .i64 (EN : Int)) := k24.cell 1
      have he0 : w3.cell? ⟨G, 0, none⟩ = some (.string { data := #[] }) := k04.cell 0
      have he1 : w3.cell? ⟨G, 1, none⟩ = some (.int .i64 0) := k04.cell 1
      have hf0 := k04.free 0
      have hf1 := k04.free 1
      have hfg := k24.free 0
      have hgg : G ≠ g2 := by omega
      have hgg' : g2 ≠ G := by omega
      have HNO : Hid (¬ sOk b n) := fun h => by rcases HOK.out.1 h with h | h; exact h0 h.1; exact h1 h.1
      have HKK : Hid (Blk ((w3.setCell ⟨G, 0, none⟩ (.string { data := #[] })).setCell ⟨G, 1, none⟩ (.int .i64 (EN : Int))) G 118 #[.string { data := #[] }, .int .i64 (EN : Int)]) := (k04.set 0 (.string { data := #[] })).set 1 (.int .i64 (EN : Int))
      clear HOK HTX k03 k23 k04 k24
      go_wp2_with fail
      refine bodyPost_ret (v := .tuple #[.agg #[.string { data := #[] }, .int .i64 (EN : Int)], .bool false]) (results_cell_tmp_row (ty := 118) rfl _ _ G #[.string { data := #[] }, .int .i64 (EN : Int)] (.bool false) rfl rfl (run_loadVar_row _ G 118 118 #[.string { data := #[] }, .int .i64 (EN : Int)] (0, 0) _ HKK.out Tryz.underlying118 rfl infoTr)) rfl ⟨.inr ⟨HNO.out, _, by rw [HEN.out]⟩, ?_⟩
      rw [← HG.out]
      exact (hb3.setCell (Nat.le_refl _) _).setCell (Nat.le_refl _) _
end Go.Proofs.YtkebgnpifmcmaabGreat

namespace Go.Proofs.YtkebgnpifmcmaabGreat
open Go.RowKit

theorem sText_size (b : ByteArray) (n : Nat) (h : sOk b n) : (sText b n).size = n := by
  unfold sText
  rcases h with ⟨h0, _⟩ | ⟨h1, h2⟩
  · rw [if_pos h0, bs_size, fText_length]
  · rw [if_neg (by omega)]; exact rTake_full _ _ h2
theorem sEnd_lt (b : ByteArray) : sEnd b < 65536 := rNum_lt _

/-- What reading an image asks, up to the two sides. -/
def Parses (im : ByteArray) : Prop := rTags im ∧ (rSt im 4).2 = false ∧ mOk (rBody im 0) ∧ sOk (rBody im 1) (mSize (rBody im 0)) ∧ sOk (rBody im 2) (mSize (rBody im 0))
def iS (im : ByteArray) (k : Nat) : ByteArray := sText (rBody im k) (mSize (rBody im 0))
def iE (im : ByteArray) (k : Nat) : Nat := sEnd (rBody im k)
def Joins (im : ByteArray) : Prop := (iE im 1 ≤ (iS im 1).size ∧ okBack (tx (iS im 1)) (iE im 1)) ∧ (iE im 2 ≤ (iS im 2).size ∧ okBack (tx (iS im 2)) (iE im 2)) ∧ backText (tx (iS im 2)) (iE im 2) = (backText (tx (iS im 1)) (iE im 1)).reverse
def Same (im : ByteArray) : Prop := ∀ f, IsSA (backText (tx (iS im 1)) (iE im 1)) f → bs (imgB (bodyB (iS im 1) (iE im 1) (iS im 2) (iE im 2) (mRate (rBody im 0)) f) 4) = im
def Reads (im : ByteArray) : Prop := Parses im ∧ Joins im ∧ Same im

def IxRes (im : ByteArray) (w : World) (e : Ending) (w' : World) : Prop :=
  ((Reads im ∧ ∃ g f, IsSA (backText (tx (iS im 1)) (iE im 1)) f ∧ e = .returned (.tuple #[.pointer (some ⟨g, 0, none⟩), .bool true]) ∧ IndexQ w' g (iS im 1) (iE im 1) (iS im 2) (iE im 2) (mRate (rBody im 0)) f) ∨
    (¬ Reads im ∧ e = .returned (.tuple #[.pointer none, .bool false]))) ∧ Below w.heap.size w w'

theorem keptL_congr {f g : Nat → Nat} (rate n : Nat) (h : ∀ i, i < n → f i = g i) : keptL f rate n = keptL g rate n := by
  induction n with
  | zero => rfl
  | succ n ih => simp only [keptL]; rw [ih (fun i hi => h i (by omega)), show isK f rate n = isK g rate n from by unfold isK; rw [h n (by omega)], h n (by omega)]
theorem keptB_congr {f g : Nat → Nat} (rate n : Nat) (h : ∀ i, i < n → f i = g i) : keptB f rate n = keptB g rate n := by
  unfold keptB
  rw [keptL_congr rate n h, packed_congr (f := isK f rate) (g := isK g rate) (fun i hi => by unfold isK; rw [h i hi])]
theorem bodyB_congr (s1 : ByteArray) (e1 : Nat) (s2 : ByteArray) (e2 rate : Nat) {f g : Nat → Nat} (h : ∀ i, i < s1.size + 1 → f i = g i) : bodyB s1 e1 s2 e2 rate f = bodyB s1 e1 s2 e2 rate g := by
  funext k
  unfold bodyB
  split
  · rfl
  · rfl
  · rfl
  · exact keptB_congr _ _ h

theorem join_im (im : ByteArray) (w : World) (h1 : (iS im 1).size ≤ 2000) (h2 : (iS im 2).size ≤ 2000) (hr : 1 ≤ mRate (rBody im 0)) :
    Calls Tryz.prog 80 #[.agg #[.string (iS im 1), .int .i64 (iE im 1 : Int)], .agg #[.string (iS im 2), .int .i64 (iE im 2 : Int)], .int .i64 (mRate (rBody im 0) : Int)] w fun en w' =>
      ((Joins im ∧ ∃ g f, IsSA (backText (tx (iS im 1)) (iE im 1)) f ∧ en = .returned (.tuple #[.pointer (some ⟨g, 0, none⟩), .bool true]) ∧ IndexQ w' g (iS im 1) (iE im 1) (iS im 2) (iE im 2) (mRate (rBody im 0)) f) ∨
        (¬ Joins im ∧ en = .returned (.tuple #[.pointer none, .bool false]))) ∧ Below w.heap.size w w' := by
  by_cases hA : iE im 1 ≤ (iS im 1).size ∧ okBack (tx (iS im 1)) (iE im 1)
  · by_cases hB : iE im 2 ≤ (iS im 2).size ∧ okBack (tx (iS im 2)) (iE im 2)
    · obtain ⟨f, hf⟩ := sa_exists (bs (backText (tx (iS im 1)) (iE im 1))) w (by rw [bs_size, backText_length, tx_length]; exact h1)
      rw [tx_bs] at hf
      refine (join_ok _ _ _ _ _ f w h1 h2 hA.1 hB.1 hA.2 hB.2 (by omega) hf).mono ?_
      rintro en w' ⟨h, hb⟩
      rcases h with ⟨he, g, rfl, hI⟩ | ⟨he, rfl⟩
      · exact ⟨.inl ⟨⟨hA, hB, he⟩, g, f, hf, rfl, hI⟩, hb⟩
      · exact ⟨.inr ⟨fun h => he h.2.2, rfl⟩, hb⟩
    · refine (join_no2 _ _ _ _ _ w h1 h2 hA.1 hA.2 ?_).mono ?_
      · by_cases h : iE im 2 ≤ (iS im 2).size
        · exact .inr ⟨h, fun h' => hB ⟨h, h'⟩⟩
        · exact .inl (by omega)
      · rintro en w' ⟨rfl, hb⟩
        exact ⟨.inr ⟨fun h => hB h.2.1, rfl⟩, hb⟩
  · refine (join_no1 _ _ _ _ _ w h1 ?_).mono ?_
    · by_cases h : iE im 1 ≤ (iS im 1).size
      · exact .inr ⟨h, fun h' => hA ⟨h, h'⟩⟩
      · exact .inl (by omega)
    · rintro en w' ⟨rfl, hb⟩
      exact ⟨.inr ⟨fun h => hA h.1, rfl⟩, hb⟩

set_option maxRecDepth 10000 in
set_option maxHeartbeats 1000000 in
theorem index_any (im : ByteArray) (w : World) : Calls Tryz.prog 58 #[.string im] w (IxRes im w) := by
  have HSP : Hid _ := split_any im w
  go_enter Tryz.func58, Tryz.ntmps58
  go_wp2_with fail
  refine Calls.mono HSP.out ?_
  clear HSP
  rintro en w1 ⟨hres, hb1⟩
  have hres' : ∃ F B, en = .returned (.tuple #[.agg (S4 F), .bool B]) ∧ Hid (B = true → rTags im ∧ (rSt im 4).2 = false ∧ F = rBody im) ∧ Hid (B = false → ¬ Reads im) := by
    rcases hres with ⟨ht, rfl⟩ | ⟨hnt, F, rfl⟩
    · refine ⟨_, _, rfl, fun hB => ⟨ht, by simpa using hB, rfl⟩, fun hB h => ?_⟩
      have := h.1.2.1
      rw [this] at hB; cases hB
    · exact ⟨F, false, rfl, (fun h => Bool.noConfusion h), fun _ h => hnt h.1.1⟩
  clear hres
  obtain ⟨F, B, rfl, HB1, HB0⟩ := hres'
  have k0 := Blk.new w1 121 (S4 F)
  have hb2 : Below w.heap.size w (w1.alloc (.cells (S4 F) 121)) := hb1.alloc hb1.size _
  unfold S4 at k0 hb2 ⊢
  cases B with
  | false =>
    have HNR : Hid (¬ Reads im) := HB0.out rfl
    clear HB1 HB0
    go_wp2_with fail
    go_ret2
    exact ⟨.inr ⟨HNR.out, rfl⟩, hb2⟩
  | true =>
    obtain ⟨htags, hst, rfl⟩ := HB1.out rfl
    have HTG : Hid (rTags im ∧ (rSt im 4).2 = false) := ⟨htags, hst⟩
    clear HB1 HB0 htags hst hb1
    have HMC : Hid (∀ w, Calls Tryz.prog 84 #[.string (rBody im 0)] w fun e w' => ((mOk (rBody im 0) ∧ e = .returned (.tuple #[.int .i64 (mSize (rBody im 0) : Int), .int .i64 (mRate (rBody im 0) : Int), .bool true])) ∨ (¬ mOk (rBody im 0) ∧ e = .returned (.tuple #[.int .i64 (mSize (rBody im 0) : Int), .int .i64 (mRate (rBody im 0) : Int), .bool false]))) ∧ Below w.heap.size w w') := fun w => readMeasures_any (rBody im 0) w
    have HSC : Hid (∀ k w, mSize (rBody im 0) ≤ 2000 → Calls Tryz.prog 85 #[.string (rBody im k), .int .i64 (mSize (rBody im 0) : Int)] w (SideRes (rBody im k) (mSize (rBody im 0)) w)) := fun k w h => readSide_any (rBody im k) _ w h
    go_wp2_with fail
    generalize w1.alloc (.cells #[.string (rBody im 0), .string (rBody im 1), .string (rBody im 2), .string (rBody im 3)] 121) = W1 at *
    generalize w1.heap.size = g0 at *
    have hg0 := k0.lt
    refine Calls.mono (HMC.out W1) ?_
    clear HMC
    rintro en w2 ⟨hres, hb3⟩
    have k2 := k0.below hb3 hg0
    have hb4 := hb2.trans (hb3.mono hb2.size)
    clear k0 hb2 hb3 hg0
    rcases hres with ⟨hok, rfl⟩ | ⟨hno, rfl⟩
    case inr =>
      have HNR : Hid (¬ Reads im) := fun h => hno h.1.2.2.1
      go_wp2_with fail
      go_ret2
      exact ⟨.inr ⟨HNR.out, rfl⟩, hb4⟩
    case inl =>
      have hms : mSize (rBody im 0) ≤ 2000 := hok.2.1
      have hmr1 : 1 ≤ mRate (rBody im 0) := hok.2.2.1
      have hmr2 : mRate (rBody im 0) ≤ 64 := hok.2.2.2
      have HOK : Hid (mOk (rBody im 0)) := hok
      clear hok
      have hc1 : w2.cell? ⟨g0, 1, none⟩ = some (.string (rBody im 1)) := k2.cell 1
      have hg2 := k2.lt
      have HS1 : Hid _ := HSC.out 1 w2 hms
      go_wp2_with fail
      refine Calls.mono HS1.out ?_
      clear HS1
      rintro en w3 ⟨hres, hb5⟩
      have k3 := k2.below hb5 hg2
      have hb6 := hb4.trans (hb5.mono hb4.size)
      clear k2 hb4 hb5 hc1
      rcases hres with ⟨hok1, rfl⟩ | ⟨hno, S, rfl⟩
      case inr =>
        have HNR : Hid (¬ Reads im) := fun h => hno h.1.2.2.2.1
        go_wp2_with fail
        go_ret2
        exact ⟨.inr ⟨HNR.out, rfl⟩, hb6.alloc hb6.size _⟩
      case inl =>
        have HOK1 : Hid (sOk (rBody im 1) (mSize (rBody im 0))) := hok1
        have hsz1 : (iS im 1).size = mSize (rBody im 0) := sText_size _ _ hok1
        have hE1 : iE im 1 < 65536 := sEnd_lt _
        rw [show sText (rBody im 1) (mSize (rBody im 0)) = iS im 1 from rfl, show sEnd (rBody im 1) = iE im 1 from rfl]
        clear hok1
        have kA := Blk.new w3 118 #[.string (iS im 1), .int .i64 (iE im 1 : Int)]
        have k4 := k3.alloc (.cells #[.string (iS im 1), .int .i64 (iE im 1 : Int)] 118)
        have hb7 := hb6.alloc hb6.size (.cells #[.string (iS im 1), .int .i64 (iE im 1 : Int)] 118)
        have HS2 : Hid (∀ w, Calls Tryz.prog 85 #[.string (rBody im 2), .int .i64 (mSize (rBody im 0) : Int)] w (SideRes (rBody im 2) (mSize (rBody im 0)) w)) := fun w => HSC.out 2 w hms
        have hc2 : (w3.alloc (.cells #[.string (iS im 1), .int .i64 (iE im 1 : Int)] 118)).cell? ⟨g0, 2, none⟩ = some (.string (rBody im 2)) := k4.cell 2
        clear HSC k3 hb6
        go_wp2_with fail
        generalize w3.alloc (.cells #[.string (iS im 1), .int .i64 (iE im 1 : Int)] 118) = W3 at *
        generalize w3.heap.size = gA at *
        have hgA := kA.lt
        refine Calls.mono (HS2.out W3) ?_
        clear HS2 hc2
        rintro en w4 ⟨hres, hb8⟩
        have kA2 := kA.below hb8 hgA
        have hb9 := hb7.trans (hb8.mono hb7.size)
        clear kA k4 hb7 hb8
        rcases hres with ⟨hok2, rfl⟩ | ⟨hno, S, rfl⟩
        case inr =>
          have HNR : Hid (¬ Reads im) := fun h => hno h.1.2.2.2.2
          go_wp2_with fail
          go_ret2
          exact ⟨.inr ⟨HNR.out, rfl⟩, hb9.alloc hb9.size _⟩
        case inl =>
          have HP : Hid (Parses im) := ⟨HTG.out.1, HTG.out.2, HOK.out, HOK1.out, hok2⟩
          have hsz2 : (iS im 2).size = mSize (rBody im 0) := sText_size _ _ hok2
          have hE2 : iE im 2 < 65536 := sEnd_lt _
          rw [show sText (rBody im 2) (mSize (rBody im 0)) = iS im 2 from rfl, show sEnd (rBody im 2) = iE im 2 from rfl]
          clear hok2 HTG HOK HOK1
          have kB := Blk.new w4 118 #[.string (iS im 2), .int .i64 (iE im 2 : Int)]
          have kA3 := kA2.alloc (.cells #[.string (iS im 2), .int .i64 (iE im 2 : Int)] 118)
          have hb10 := hb9.alloc hb9.size (.cells #[.string (iS im 2), .int .i64 (iE im 2 : Int)] 118)
          have hd0 : (w4.alloc (.cells #[.string (iS im 2), .int .i64 (iE im 2 : Int)] 118)).cell? ⟨gA, 0, none⟩ = some (.string (iS im 1)) := kA3.cell 0
          have hd1 : (w4.alloc (.cells #[.string (iS im 2), .int .i64 (iE im 2 : Int)] 118)).cell? ⟨gA, 1, none⟩ = some (.int .i64 (iE im 1 : Int)) := kA3.cell 1
          have hd2 : (w4.alloc (.cells #[.string (iS im 2), .int .i64 (iE im 2 : Int)] 118)).cell? ⟨w4.heap.size, 0, none⟩ = some (.string (iS im 2)) := kB.cell 0
          have hd3 : (w4.alloc (.cells #[.string (iS im 2), .int .i64 (iE im 2 : Int)] 118)).cell? ⟨w4.heap.size, 1, none⟩ = some (.int .i64 (iE im 2 : Int)) := kB.cell 1
          clear kA2 hb9 kA3 kB
          go_wp2_with fail
          generalize w4.alloc (.cells #[.string (iS im 2), .int .i64 (iE im 2 : Int)] 118) = W4 at *
          have HJ : Hid _ := join_im im W4 (by omega) (by omega) hmr1
          refine Calls.mono HJ.out ?_
          clear HJ hd0 hd1 hd2 hd3
          rintro en w5 ⟨hres, hb11⟩
          have hb12 := hb10.trans (hb11.mono hb10.size)
          clear hb10 hb11
          rcases hres with ⟨hj, g, f, hf, rfl, hI⟩ | ⟨hno, rfl⟩
          case inr =>
            have HNR : Hid (¬ Reads im) := fun h => hno h.2.1
            clear hno
            go_wp2_with fail
            go_ret2
            exact ⟨.inr ⟨HNR.out, rfl⟩, hb12⟩
          case inl =>
            have HJ : Hid (Joins im) := hj
            have hq1 := hj.1.1
            have hq2 := hj.2.1.1
            have HF : Hid (IsSA (backText (tx (iS im 1)) (iE im 1)) f) := hf
            have HI : Hid _ := hI
            have hle : ∀ r, r < (iS im 1).size + 1 → f r ≤ 2000 := fun r hr => Nat.le_trans (hf.le r (by rw [backText_length, tx_length]; omega)) (by rw [backText_length, tx_length]; omega)
            have HIM : Hid _ := image_any w5 g (iE im 1) (iE im 2) (mRate (rBody im 0)) (iS im 1) (iS im 2) f hI (by omega) (by omega) hmr2 (by omega) (by omega) hle
            have HIB : Hid (∀ w', Below w5.heap.size w5 w' → IndexQ w' g (iS im 1) (iE im 1) (iS im 2) (iE im 2) (mRate (rBody im 0)) f) := fun w' hb => hI.below hb
            clear hj hf hI hle HI
            have HSM : Hid (bs (imgB (bodyB (iS im 1) (iE im 1) (iS im 2) (iE im 2) (mRate (rBody im 0)) f) 4) = im → Same im) := fun he f' hf' => by
              rw [← bodyB_congr (iS im 1) (iE im 1) (iS im 2) (iE im 2) (mRate (rBody im 0)) (f := f) (g := f') (fun i hi => HF.out.unique hf' i (by rw [backText_length, tx_length]; omega))]
              exact he
            have HSN : Hid (Same im → bs (imgB (bodyB (iS im 1) (iE im 1) (iS im 2) (iE im 2) (mRate (rBody im 0)) f) 4) = im) := fun h => h f HF.out
            go_wp2_with fail
            refine Calls.mono HIM.out ?_
            clear HIM
            rintro en w6 ⟨rfl, hb13⟩
            have HIX : Hid _ := HIB.out w6 hb13
            have hb14 := hb12.trans (hb13.mono hb12.size)
            clear HIB hb12 hb13
            generalize bs (imgB (bodyB (iS im 1) (iE im 1) (iS im 2) (iE im 2) (mRate (rBody im 0)) f) 4) = IM at *
            by_cases heq : IM = im
            · subst heq
              have HR : Hid (Reads IM) := ⟨HP.out, HJ.out, HSM.out rfl⟩
              clear HSM HSN
              go_wp2_with fail
              go_ret2
              exact ⟨.inl ⟨HR.out, g, f, HF.out, rfl, HIX.out⟩, hb14⟩
            · have hne : (IM.toList == im.toList) = false := by
                simp only [beq_eq_false_iff_ne, ne_eq]
                exact fun h => heq (toList_inj h)
              have HNR : Hid (¬ Reads im) := fun h => heq (HSN.out h.2.2)
              clear HSM HSN
              go_wp2_with fail
              go_ret2
              exact ⟨.inr ⟨HNR.out, rfl⟩, hb14⟩
end Go.Proofs.YtkebgnpifmcmaabGreat

namespace Go.Proofs.YtkebgnpifmcmaabGreat
open Go.RowKit

theorem bs_app (a b : List UInt8) : bs (a ++ b) = bs a ++ bs b := by
  apply ByteArray.ext; simp [bs]
theorem bs_front (a b : List UInt8) : (bs (a ++ b)).extract 0 a.length = bs a := by
  apply ByteArray.ext
  simp [bs]
theorem bs_rest (a b : List UInt8) : (bs (a ++ b)).extract a.length (bs (a ++ b)).size = bs b := by
  apply ByteArray.ext
  simp [bs, ByteArray.size]
theorem rTake_bs (a b : List UInt8) : rTake (bs (a ++ b), false) a.length = (bs a, (bs b, false)) := by
  unfold rTake
  rw [if_neg (by simp [bs_size])]
  rw [bs_front, bs_rest]
theorem rByte_bs (x : UInt8) (b : List UInt8) : rByte (bs (x :: b), false) = (x.toNat, (bs b, false)) := by
  unfold rByte
  rw [dif_neg (by simp [bs_size])]
  have h := bs_rest [x] b
  simp only [List.cons_append, List.nil_append, List.length_cons, List.length_nil] at h
  simp only [h]
  rfl
theorem rNum_bs (x y : UInt8) (b : List UInt8) : rNum (bs (x :: y :: b), false) = (x.toNat * 256 + y.toNat, (bs b, false)) := by
  unfold rNum
  rw [dif_neg (by simp [bs_size])]
  have h := bs_rest [x, y] b
  simp only [List.cons_append, List.nil_append, List.length_cons, List.length_nil] at h
  simp only [h]
  rfl
theorem rNum_num2 (n : Nat) (hn : n < 65536) (b : List UInt8) : rNum (bs (num2 n ++ b), false) = (n, (bs b, false)) := by
  rw [show num2 n ++ b = UInt8.ofNat (n / 256) :: UInt8.ofNat n :: b from rfl, rNum_bs, ofNat_toNat (by omega)]
  have h : (UInt8.ofNat n).toNat = n % 256 := by simp [UInt8.toNat_ofNat']
  rw [h, show n / 256 * 256 + n % 256 = n from by omega]

/-- One part, and the parts from one on. -/
def prt (b : Nat → List UInt8) (k : Nat) : List UInt8 := UInt8.ofNat k :: (num2 (b k).length ++ b k)
theorem rPart_prt (b : Nat → List UInt8) (k : Nat) (rest : List UInt8) (hk : k < 256) (hl : (b k).length < 65536) : rPart (bs (prt b k ++ rest), false) = (k, bs (b k), (bs rest, false)) := by
  have e1 : rByte (bs (prt b k ++ rest), false) = (k, (bs (num2 (b k).length ++ (b k ++ rest)), false)) := by
    rw [show prt b k ++ rest = UInt8.ofNat k :: (num2 (b k).length ++ (b k ++ rest)) from by simp [prt, num2], rByte_bs, ofNat_toNat hk]
  unfold rPart
  rw [e1]
  simp only [rNum_num2 _ hl, rTake_bs]
theorem imgB_parts (b : Nat → List UInt8) : imgB b 4 = prt b 0 ++ (prt b 1 ++ (prt b 2 ++ (prt b 3 ++ []))) := by
  simp [imgB, prt, List.append_assoc]
theorem rSt_img (b : Nat → List UInt8) (hl : ∀ k, (b k).length < 65536) : rSt (bs (imgB b 4)) 0 = (bs (prt b 0 ++ (prt b 1 ++ (prt b 2 ++ (prt b 3 ++ [])))), false) ∧ rSt (bs (imgB b 4)) 1 = (bs (prt b 1 ++ (prt b 2 ++ (prt b 3 ++ []))), false) ∧ rSt (bs (imgB b 4)) 2 = (bs (prt b 2 ++ (prt b 3 ++ [])), false) ∧ rSt (bs (imgB b 4)) 3 = (bs (prt b 3 ++ []), false) ∧ rSt (bs (imgB b 4)) 4 = (bs [], false) := by
  have h0 : rSt (bs (imgB b 4)) 0 = (bs (prt b 0 ++ (prt b 1 ++ (prt b 2 ++ (prt b 3 ++ [])))), false) := by rw [← imgB_parts]; rfl
  have h1 : rSt (bs (imgB b 4)) 1 = (bs (prt b 1 ++ (prt b 2 ++ (prt b 3 ++ []))), false) := by
    rw [show rSt (bs (imgB b 4)) 1 = (rPart (rSt (bs (imgB b 4)) 0)).2.2 from rfl, h0, rPart_prt _ _ _ (by omega) (hl _)]
  have h2 : rSt (bs (imgB b 4)) 2 = (bs (prt b 2 ++ (prt b 3 ++ [])), false) := by
    rw [show rSt (bs (imgB b 4)) 2 = (rPart (rSt (bs (imgB b 4)) 1)).2.2 from rfl, h1, rPart_prt _ _ _ (by omega) (hl _)]
  have h3 : rSt (bs (imgB b 4)) 3 = (bs (prt b 3 ++ []), false) := by
    rw [show rSt (bs (imgB b 4)) 3 = (rPart (rSt (bs (imgB b 4)) 2)).2.2 from rfl, h2, rPart_prt _ _ _ (by omega) (hl _)]
  refine ⟨h0, h1, h2, h3, ?_⟩
  rw [show rSt (bs (imgB b 4)) 4 = (rPart (rSt (bs (imgB b 4)) 3)).2.2 from rfl, h3, rPart_prt _ _ _ (by omega) (hl _)]
theorem rPart_img (b : Nat → List UInt8) (hl : ∀ k, (b k).length < 65536) (k : Nat) (hk : k < 4) : (rPart (rSt (bs (imgB b 4)) k)).1 = k ∧ rBody (bs (imgB b 4)) k = bs (b k) := by
  obtain ⟨h0, h1, h2, h3, _⟩ := rSt_img b hl
  unfold rBody
  rcases (show k = 0 ∨ k = 1 ∨ k = 2 ∨ k = 3 by omega) with rfl | rfl | rfl | rfl
  · rw [h0, rPart_prt _ _ _ (by omega) (hl _)]; exact ⟨rfl, rfl⟩
  · rw [h1, rPart_prt _ _ _ (by omega) (hl _)]; exact ⟨rfl, rfl⟩
  · rw [h2, rPart_prt _ _ _ (by omega) (hl _)]; exact ⟨rfl, rfl⟩
  · rw [h3, rPart_prt _ _ _ (by omega) (hl _)]; exact ⟨rfl, rfl⟩

theorem measures_back (n rate : Nat) (hn : n ≤ 2000) (hr1 : 1 ≤ rate) (hr : rate ≤ 64) : mOk (bs (num2 n ++ [UInt8.ofNat rate])) ∧ mSize (bs (num2 n ++ [UInt8.ofNat rate])) = n ∧ mRate (bs (num2 n ++ [UInt8.ofNat rate])) = rate := by
  have e := rNum_num2 n (by omega) [UInt8.ofNat rate]
  unfold mOk mSize mRate
  rw [e]
  simp only [rByte_bs, ofNat_toNat (show rate < 256 by omega)]
  exact ⟨⟨trivial, hn, hr1, hr⟩, trivial, trivial⟩

theorem side_many_back (s : ByteArray) (e : Nat) (he : e < 65536) : sOk (bs (num2 e ++ [1] ++ tx s)) s.size ∧ sText (bs (num2 e ++ [1] ++ tx s)) s.size = s ∧ sEnd (bs (num2 e ++ [1] ++ tx s)) = e := by
  have e1 := rNum_num2 e he (1 :: tx s)
  rw [show num2 e ++ [1] ++ tx s = num2 e ++ (1 :: tx s) from by simp]
  have h1 : sKind (bs (num2 e ++ (1 :: tx s))) = 1 := by unfold sKind; rw [e1]; simp only [rByte_bs]; rfl
  have h2 : sRd (bs (num2 e ++ (1 :: tx s))) = (bs (tx s), false) := by unfold sRd; rw [e1]; simp only [rByte_bs]
  have h3 := rTake_bs (tx s) []
  rw [List.append_nil, tx_length] at h3
  refine ⟨.inr ⟨h1, by rw [h2, h3]⟩, ?_, by unfold sEnd; rw [e1]⟩
  unfold sText
  rw [if_neg (by omega), h2, h3]
  exact bs_tx s
end Go.Proofs.YtkebgnpifmcmaabGreat

namespace Go.Proofs.YtkebgnpifmcmaabGreat
open Go.RowKit

/-- The packed rows from one on. -/
def rst (s lt : ByteArray) : Nat → Nat → List UInt8
  | 0, _ => []
  | d + 1, k => packed (isLet s lt k) s.size ++ rst s lt d (k + 1)
theorem packs_rst (s lt : ByteArray) (d k : Nat) : packs s lt (k + d) = packs s lt k ++ rst s lt d k := by
  induction d generalizing k with
  | zero => simp [rst]
  | succ d ih =>
    rw [show k + (d + 1) = (k + 1) + d from by omega, ih (k + 1), packs, rst, List.append_assoc]
theorem few_state (s lt : ByteArray) (r : ByteArray × Bool) (m : Nat) (h0 : fSt r s.size 0 = (bs (rst s lt m 0), false)) (k : Nat) (hk : k ≤ m) : fSt r s.size k = (bs (rst s lt (m - k) k), false) := by
  induction k with
  | zero => exact h0
  | succ k ih =>
    have hp := rTake_bs (packed (isLet s lt k) s.size) (rst s lt (m - (k + 1)) (k + 1))
    rw [packed_length] at hp
    rw [fSt, ih (by omega), show m - k = (m - (k + 1)) + 1 from by omega, rst, hp]
theorem few_packed (s lt : ByteArray) (r : ByteArray × Bool) (m : Nat) (h0 : fSt r s.size 0 = (bs (rst s lt m 0), false)) (k : Nat) (hk : k < m) : fPk r s.size k = bs (packed (isLet s lt k) s.size) := by
  have hp := rTake_bs (packed (isLet s lt k) s.size) (rst s lt (m - (k + 1)) (k + 1))
  rw [packed_length] at hp
  rw [fPk, few_state s lt r m h0 k (by omega), show m - k = (m - (k + 1)) + 1 from by omega, rst, hp]
theorem few_value (s lt : ByteArray) (r : ByteArray × Bool) (h0 : fSt r s.size 0 = (bs (rst s lt lt.size 0), false)) (hl : fLet r = lt) (i : Nat) (hi : i < s.size) (k : Nat) (hk : k ≤ lt.size) (h : ∃ j, j < k ∧ (tx lt).getD j 0 = s[i]) : fVal r s.size k i = s[i] := by
  induction k with
  | zero => obtain ⟨j, hj, _⟩ := h; omega
  | succ k ih =>
    rw [fVal, few_packed s lt r lt.size h0 k (by omega), strBit_packed _ _ _ hi, isLet_at s lt k i hi (by omega), hl]
    by_cases e : s[i] = lt[k]
    · rw [if_pos (by simpa using e), tx_getD lt k (by omega), e]
    · rw [if_neg (by simpa using e)]
      obtain ⟨j, hj, hv⟩ := h
      refine ih (by omega) ⟨j, ?_, hv⟩
      by_cases e2 : j = k
      · subst e2
        rw [tx_getD lt j (by omega)] at hv
        exact absurd hv.symm e
      · omega
theorem side_few_back (s lt : ByteArray) (e : Nat) (he : e < 65536) (h8 : lt.size ≤ 8) (hh : ∀ i, (hi : i < s.size) → ∃ k, k < lt.size ∧ (tx lt).getD k 0 = s[i]) :
    sOk (bs (num2 e ++ [0, UInt8.ofNat lt.size] ++ tx lt ++ packs s lt lt.size)) s.size ∧ sText (bs (num2 e ++ [0, UInt8.ofNat lt.size] ++ tx lt ++ packs s lt lt.size)) s.size = s ∧ sEnd (bs (num2 e ++ [0, UInt8.ofNat lt.size] ++ tx lt ++ packs s lt lt.size)) = e := by
  have hpk := packs_rst s lt lt.size 0
  rw [Nat.zero_add, packs, List.nil_append] at hpk
  rw [hpk, show num2 e ++ [0, UInt8.ofNat lt.size] ++ tx lt ++ rst s lt lt.size 0 = num2 e ++ (0 :: (UInt8.ofNat lt.size :: (tx lt ++ rst s lt lt.size 0))) from by simp]
  have e1 := rNum_num2 e he (0 :: (UInt8.ofNat lt.size :: (tx lt ++ rst s lt lt.size 0)))
  generalize hB : bs (num2 e ++ (0 :: (UInt8.ofNat lt.size :: (tx lt ++ rst s lt lt.size 0)))) = B at e1 ⊢
  have h1 : sKind B = 0 := by unfold sKind; rw [e1]; simp only [rByte_bs]; rfl
  have h2 : sRd B = (bs (UInt8.ofNat lt.size :: (tx lt ++ rst s lt lt.size 0)), false) := by unfold sRd; rw [e1]; simp only [rByte_bs]
  have h3 : rByte (sRd B) = (lt.size, (bs (tx lt ++ rst s lt lt.size 0), false)) := by rw [h2, rByte_bs, ofNat_toNat (by omega)]
  have h4 := rTake_bs (tx lt) (rst s lt lt.size 0)
  rw [tx_length, bs_tx] at h4
  have h5 : fLet (sRd B) = lt := by unfold fLet; rw [h3]; simp only [h4]
  have h6 : fSt (sRd B) s.size 0 = (bs (rst s lt lt.size 0), false) := by rw [fSt, h3]; simp only [h4]
  refine ⟨.inl ⟨h1, ?_⟩, ?_, by unfold sEnd; rw [e1]⟩
  · rw [h5, few_state s lt _ lt.size h6 lt.size (Nat.le_refl _)]
  · unfold sText
    rw [if_pos h1, ← bs_tx s]
    refine congrArg bs ?_
    rw [bs_tx]
    apply List.ext_getElem
    · rw [fText_length, tx_length]
    · intro i q1 q2
      rw [fText_length] at q1
      have q3 := fText_get (sRd B) s.size i q1
      rw [List.getD_eq_getElem?_getD, List.getElem?_eq_getElem (by rw [fText_length]; exact q1), Option.getD_some] at q3
      have q4 := tx_getD s i q1
      rw [List.getD_eq_getElem?_getD, List.getElem?_eq_getElem q2, Option.getD_some] at q4
      rw [q3, q4, h5]
      exact few_value s lt (sRd B) h6 h5 i q1 lt.size (Nat.le_refl _) (hh i q1)
theorem side_back (s : ByteArray) (e : Nat) (he : e < 65536) : sOk (bs (sideB s e)) s.size ∧ sText (bs (sideB s e)) s.size = s ∧ sEnd (bs (sideB s e)) = e := by
  unfold sideB
  by_cases h : (letters s).length ≤ 8
  · rw [if_pos h]
    exact side_few_back s (bs (letters s)) e he (by rw [bs_size]; exact h) (fun i hi => by
      rw [tx_bs, bs_size]
      exact letters_has s i hi)
  · rw [if_neg h]
    exact side_many_back s e he
end Go.Proofs.YtkebgnpifmcmaabGreat

namespace Go.Proofs.YtkebgnpifmcmaabGreat
open Go.RowKit

/-- The image of a text reads back. -/
theorem reads_img {t : List UInt8} {rate : Nat} {im : List UInt8} (h : IsImg t rate im) (hn : t.length ≤ 2000) (hr1 : 1 ≤ rate) (hr : rate ≤ 64) :
    Reads (bs im) ∧ backText (tx (iS (bs im) 1)) (iE (bs im) 1) = t ∧ mRate (rBody (bs im) 0) = rate := by
  obtain ⟨f, f2, F, F2, rfl⟩ := h
  have l1 := bwt_length F
  have l2 := bwt_length F2
  have b1 := bwt_back F
  have b2 := bwt_back F2
  have o1 := bwt_ok F
  have o2 := bwt_ok F2
  have e1 := (sa_end F).1
  have e2 := (sa_end F2).1
  rw [List.length_reverse] at l2 b2 o2 e2
  generalize hS1 : pre t f (t.length + 1) = L1 at *
  generalize hS2 : pre t.reverse f2 (t.length + 1) = L2 at *
  generalize endOf f (t.length + 1) = E1 at *
  generalize endOf f2 (t.length + 1) = E2 at *
  have hz1 : (bs L1).size = t.length := by rw [bs_size, l1]
  have hz2 : (bs L2).size = t.length := by rw [bs_size, l2]
  have hlen := bodyB_length (bs L1) E1 (bs L2) E2 rate f (by omega) (by omega)
  have hl : ∀ k, (bodyB (bs L1) E1 (bs L2) E2 rate f k).length < 65536 := fun k => by have := (hlen k).1; omega
  have hp := rPart_img _ hl
  have hs4 := (rSt_img _ hl).2.2.2.2
  have h0 := (hp 0 (by omega)).2
  have h1 := (hp 1 (by omega)).2
  have h2 := (hp 2 (by omega)).2
  have hm := measures_back (bs L1).size rate (by omega) hr1 hr
  have hA := side_back (bs L1) E1 (by omega)
  have hB := side_back (bs L2) E2 (by omega)
  generalize hIM : bs (imgB (bodyB (bs L1) E1 (bs L2) E2 rate f) 4) = IM at *
  rw [show bodyB (bs L1) E1 (bs L2) E2 rate f 0 = num2 (bs L1).size ++ [UInt8.ofNat rate] from rfl] at h0
  rw [show bodyB (bs L1) E1 (bs L2) E2 rate f 1 = sideB (bs L1) E1 from rfl] at h1
  rw [show bodyB (bs L1) E1 (bs L2) E2 rate f 2 = sideB (bs L2) E2 from rfl] at h2
  have hms : mSize (rBody IM 0) = (bs L1).size := by rw [h0]; exact hm.2.1
  have hmr : mRate (rBody IM 0) = rate := by rw [h0]; exact hm.2.2
  have hi1 : iS IM 1 = bs L1 := by unfold iS; rw [hms, h1]; exact hA.2.1
  have hi2 : iS IM 2 = bs L2 := by unfold iS; rw [hms, h2, hz1, ← hz2]; exact hB.2.1
  have hj1 : iE IM 1 = E1 := by unfold iE; rw [h1]; exact hA.2.2
  have hj2 : iE IM 2 = E2 := by unfold iE; rw [h2]; exact hB.2.2
  refine ⟨⟨⟨fun j hj => (hp j hj).1, by rw [hs4], by rw [h0]; exact hm.1, by rw [hms, h1]; exact hA.1, by rw [hms, h2, hz1, ← hz2]; exact hB.1⟩, ?_, ?_⟩, ?_, hmr⟩
  · unfold Joins
    rw [hi1, hi2, hj1, hj2, tx_bs, tx_bs, b1, b2]
    exact ⟨⟨by omega, o1⟩, ⟨by omega, o2⟩, rfl⟩
  · unfold Same
    rw [hi1, hi2, hj1, hj2, hmr, tx_bs, b1]
    intro f' F'
    rw [← hIM, bodyB_congr (bs L1) E1 (bs L2) E2 rate (f := f') (g := f) (fun i hi => F'.unique F i (by omega))]
  · rw [hi1, hj1, tx_bs, b1]

theorem reads_empty : ¬ Reads (bs []) := by
  intro h
  have h1 := h.1.1 1 (by omega)
  revert h1
  decide
end Go.Proofs.YtkebgnpifmcmaabGreat

namespace Go.Proofs.YtkebgnpifmcmaabGreat
open Go.RowKit

theorem enterSideText (args : Array Value) (w : World) : (callFunc 71 args).run Tryz.prog w = .ok (.enter 71 args) w := Go.MuLone.run_callFunc_enter (P := Tryz.prog) Tryz.func71 (by kernel_rfl) rfl args w

def TextRes (im : ByteArray) (w : World) (e : Ending) (w' : World) : Prop :=
  ((Reads im ∧ e = .returned (.tuple #[.string (bs (backText (tx (iS im 1)) (iE im 1))), .int .i64 (mRate (rBody im 0) : Int), .int .i64 0])) ∨
    (¬ Reads im ∧ e = .returned (.tuple #[.string { data := #[] }, .int .i64 0, .int .i64 4]))) ∧ Below w.heap.size w w'

set_option maxRecDepth 10000 in
set_option maxHeartbeats 1000000 in
theorem text_any (im : ByteArray) (w : World) : Calls Tryz.prog 49 #[.string im] w (TextRes im w) := by
  have HIX : Hid _ := index_any im w
  go_enter Tryz.func49, Tryz.ntmps49
  go_wp2_with fail
  refine Calls.mono HIX.out ?_
  clear HIX
  rintro en w1 ⟨hres, hb1⟩
  rcases hres with ⟨hR, g, f, hf, rfl, hQ⟩ | ⟨hno, rfl⟩
  case inr =>
    have HNR : Hid (¬ Reads im) := hno
    clear hno
    go_wp2_with fail
    go_ret3
    exact ⟨.inr ⟨HNR.out, rfl⟩, hb1⟩
  case inl =>
    have HRD : Hid (Reads im) := hR
    have hsz : (iS im 1).size ≤ 2000 := by
      rw [show (iS im 1).size = mSize (rBody im 0) from sText_size _ _ hR.1.2.2.2.1]; exact hR.1.2.2.1.2.1
    have HJ : Hid _ := hR.2.1.1
    clear hR hf
    obtain ⟨c1, c2, m0, m1, m2, pl, base, hk, hC1, _⟩ := hQ
    have hc4 : w1.cell? ⟨g, 4, none⟩ = some (.int .i64 (mRate (rBody im 0) : Int)) := hk.cell 4
    have hc0 : w1.cell? ⟨g, 0, none⟩ = some c1 := hk.cell 0
    have hSP : SideP w1 g 0 (iS im 1) (iE im 1) := ⟨c1, hc0, hk.cell 1, hk.lt, hC1⟩
    have HST : Hid _ := side_text w1.drew g 0 (iE im 1) (iS im 1) hSP hsz HJ.out.1 HJ.out.2
    have hkd : Blk w1.drew g 74 #[c1, .int .i64 (iE im 1 : Int), c2, .int .i64 (iE im 2 : Int), .int .i64 (mRate (rBody im 0) : Int), m0, m1, m2, pl] := hk
    have hbd : Below w.heap.size w w1.drew := hb1.drew
    clear hC1 hSP hk HJ
    go_upto_region 4 with fail
    go_region_law (first
      | (refine step_calls (args := #[.pointer (some ⟨g, 0, none⟩)]) rfl rfl enterSideText (by simp [Act.eval, Act.put]) HST.out ?_; rintro en w2 ⟨rfl, hb2⟩; refine ⟨_, rfl, ?_⟩; have hd4 : w2.cell? ⟨g, 4, none⟩ = some (.int .i64 (mRate (rBody im 0) : Int)) := (hkd.below hb2 hkd.lt).cell 4))
    all_goals go_wp2
    all_goals go_ret3
    all_goals exact ⟨.inl ⟨HRD.out, rfl⟩, hbd.trans (hb2.mono hbd.size)⟩
end Go.Proofs.YtkebgnpifmcmaabGreat

namespace Go.Proofs.YtkebgnpifmcmaabGreat
open Go.RowKit

theorem refBuild_any (s : ByteArray) (x : Int) (w : World) (hm : s.size ≤ maxLen) : Calls Tryz.prog 48 #[.string s, .int .i64 x] w fun e w' => e = .returned (.int .i64 (if 2000 < s.size then 1 else if x < 1 ∨ 64 < x then 2 else 0)) ∧ w' = w := by
  unfold maxLen at hm
  by_cases h1 : 2000 < s.size
  · rw [if_pos h1]
    go_enter Tryz.func48, Tryz.ntmps48
    go_wp2
    go_ret
    exact ⟨rfl, rfl⟩
  · rw [if_neg h1]
    have h1' : s.size ≤ 2000 := by omega
    by_cases h2 : x < 1
    · rw [if_pos (.inl h2)]
      have hd : decide (x < 1) = true := by simpa using h2
      go_enter Tryz.func48, Tryz.ntmps48
      go_wp2
      go_ret
      exact ⟨rfl, rfl⟩
    · have hd : decide (x < 1) = false := by simpa using h2
      by_cases h3 : 64 < x
      · rw [if_pos (.inr h3)]
        have hd2 : decide (64 < x) = true := by simpa using h3
        go_enter Tryz.func48, Tryz.ntmps48
        go_wp2
        go_ret
        exact ⟨rfl, rfl⟩
      · rw [if_neg (by omega)]
        have hd2 : decide (64 < x) = false := by simpa using h3
        go_enter Tryz.func48, Tryz.ntmps48
        go_wp2
        go_ret
        exact ⟨rfl, rfl⟩

theorem isImg_ne {t : List UInt8} {rate : Nat} {im : List UInt8} (h : IsImg t rate im) : im ≠ [] := by
  obtain ⟨f, f2, _, _, rfl⟩ := h
  rw [imgB_parts]; simp [prt]

set_option maxRecDepth 10000 in
set_option maxHeartbeats 1000000 in
theorem images_walk (a0 : ByteArray) (a1 : Int) (w0 : a0.size ≤ maxLen) (_w1 : (Lit.int .i64 a1).wf = true) (w : World) :
    Calls Tryz.prog 28 #[.string a0, .int .i64 a1] w fun e w' => e = .returned (.bool true) ∧ Below w.heap.size w w' := by
  have hem : ByteArray.empty = ({ data := #[] } : ByteArray) := rfl
  have HNE : Hid (¬ Reads { data := #[] }) := reads_empty
  by_cases hbad : 2000 < a0.size ∨ (a0.size ≤ 2000 ∧ (a1 < 1 ∨ 64 < a1))
  · have HB : Hid (∃ c : Int, (c = 1 ∨ c = 2) ∧ (Calls Tryz.prog 30 #[.string a0, .int .i64 a1] w fun en w' => en = .returned (.tuple #[.string { data := #[] }, .int .i64 c]) ∧ w' = w) ∧ ∀ w, Calls Tryz.prog 48 #[.string a0, .int .i64 a1] w fun e w' => e = .returned (.int .i64 c) ∧ w' = w) := by
      rcases hbad with h | ⟨h, h'⟩
      · exact ⟨1, .inl rfl, build_long a0 a1 w w0 h, fun w => by have := refBuild_any a0 a1 w w0; rw [if_pos h] at this; exact this⟩
      · exact ⟨2, .inr rfl, build_rate a0 a1 w h h', fun w => by have := refBuild_any a0 a1 w w0; rw [if_neg (by omega), if_pos h'] at this; exact this⟩
    clear hbad
    obtain ⟨c, hc, hB, hR⟩ := HB.out
    have HB1 : Hid _ := hB
    have HR1 : Hid _ := hR
    clear HB hB hR
    rcases hc with rfl | rfl
    all_goals
      go_enter Tryz.func28, Tryz.ntmps28
      go_wp2_with fail
      refine Calls.mono HB1.out ?_
      rintro en w1 ⟨rfl, rfl⟩
      go_wp2_with fail
      refine Calls.mono (HR1.out _) ?_
      rintro en w2 ⟨rfl, rfl⟩
      go_wp2_with fail
      refine Calls.mono (text_any _ _) ?_
      rintro en w3 ⟨hres, hb3⟩
      rcases hres with ⟨hR, _⟩ | ⟨_, rfl⟩
      · exact absurd hR HNE.out
      · clear HB1 HR1
        go_wp2
        go_ret
        exact ⟨rfl, hb3⟩
  · have hn : a0.size ≤ 2000 := by omega
    have h1 : 1 ≤ a1 := by omega
    have h2 : a1 ≤ 64 := by omega
    obtain ⟨rate, rfl⟩ : ∃ rate : Nat, a1 = (rate : Int) := ⟨a1.toNat, by omega⟩
    have HR1 : Hid (∀ w, Calls Tryz.prog 48 #[.string a0, .int .i64 (rate : Int)] w fun e w' => e = .returned (.int .i64 0) ∧ w' = w) := fun w => by
      have := refBuild_any a0 (rate : Int) w w0
      rw [if_neg (by omega), if_neg (by omega)] at this
      exact this
    clear hbad
    go_enter Tryz.func28, Tryz.ntmps28
    go_wp2_with fail
    refine (build_ok a0 rate w hn (by omega) (by omega)).mono ?_
    rintro en w1 ⟨im, him, rfl, hb1⟩
    have HRD : Hid _ := reads_img him (by rw [tx_length]; exact hn) (by omega) (by omega)
    have hne : (bs im).toList.isEmpty = false := by
      rw [List.isEmpty_eq_false_iff]
      intro h
      exact isImg_ne him (bs_inj (toList_inj (h.trans (show ([] : List UInt8) = (bs []).toList from by rw [Lib.toList_data]; rfl))))
    clear him
    go_wp2_with fail
    refine Calls.mono (HR1.out _) ?_
    rintro en w2 ⟨rfl, rfl⟩
    go_wp2_with fail
    refine Calls.mono (text_any _ _) ?_
    rintro en w3 ⟨hres, hb3⟩
    have hb4 := hb1.trans (hb3.mono hb1.size)
    clear hb1 hb3 HR1
    rcases hres with ⟨_, rfl⟩ | ⟨hN, _⟩
    · rw [HRD.out.2.1, HRD.out.2.2, bs_tx]
      clear HRD
      generalize bs im = IM at *
      have q1 : (a0.toList == a0.toList) = true := by simp
      have q2 : ((rate : Int) == (rate : Int)) = true := by simp
      go_wp2
      go_ret
      exact ⟨rfl, hb4⟩
    · exact absurd HRD.out.1 hN
end Go.Proofs.YtkebgnpifmcmaabGreat

namespace Go.Proofs.YtkebgnpifmcmaabGreat
open Go.RowKit

/-- What reads back is the image of the text that is read. -/
theorem reads_isImg {im : ByteArray} (h : Reads im) (w : World) :
    IsImg (backText (tx (iS im 1)) (iE im 1)) (mRate (rBody im 0)) (tx im) ∧ (backText (tx (iS im 1)) (iE im 1)).length ≤ 2000 ∧ 1 ≤ mRate (rBody im 0) ∧ mRate (rBody im 0) ≤ 64 := by
  obtain ⟨⟨_, _, hm, hs1, hs2⟩, ⟨⟨he1, ho1⟩, ⟨he2, ho2⟩, hrev⟩, hsame⟩ := h
  have z1 : (iS im 1).size = mSize (rBody im 0) := sText_size _ _ hs1
  have z2 : (iS im 2).size = mSize (rBody im 0) := sText_size _ _ hs2
  have hz : mSize (rBody im 0) ≤ 2000 := hm.2.1
  have l1 : (backText (tx (iS im 1)) (iE im 1)).length = mSize (rBody im 0) := by rw [backText_length, tx_length, z1]
  obtain ⟨f, F⟩ := sa_exists (bs (backText (tx (iS im 1)) (iE im 1))) w (by rw [bs_size, l1]; exact hz)
  obtain ⟨f2, F2⟩ := sa_exists (bs (backText (tx (iS im 2)) (iE im 2))) w (by rw [bs_size, backText_length, tx_length, z2]; exact hz)
  rw [tx_bs] at F F2
  have t1 := back_transform (by rw [tx_length]; exact he1) ho1 F
  have t2 := back_transform (by rw [tx_length]; exact he2) ho2 F2
  have q := hsame f F
  rw [hrev] at F2 t2
  rw [tx_length, z1] at t1
  rw [tx_length, z2] at t2
  refine ⟨⟨f, f2, F, F2, ?_⟩, by omega, hm.2.2.1, hm.2.2.2⟩
  rw [l1]
  rw [t1.1, t1.2, t2.1, t2.2, bs_tx, bs_tx, ← tx_bs (imgB _ 4), q]
end Go.Proofs.YtkebgnpifmcmaabGreat
