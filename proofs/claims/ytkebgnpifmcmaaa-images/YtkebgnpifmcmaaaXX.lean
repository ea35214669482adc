import Derived.Test.YtkebgnpifmcmaaaXW
namespace Go.Proofs.Ytkebgnpifmcmaaa
open Go.RowKit

/-- Only one of the blocks that were there has changed. -/
def OnlyX (g : Nat) (w w' : World) : Prop := (∀ b, b < w.heap.size → b ≠ g → w'.heap[b]? = w.heap[b]?) ∧ Below g w w'
theorem OnlyX.refl (g : Nat) (w : World) : OnlyX g w w := ⟨fun _ _ _ => rfl, Below.refl _ _⟩
theorem OnlyX.trans {g : Nat} {a b c : World} (h : OnlyX g a b) (h' : OnlyX g b c) : OnlyX g a c := ⟨fun x hx hn => (h'.1 x (Nat.lt_of_lt_of_le hx h.2.size) hn).trans (h.1 x hx hn), h.2.trans h'.2⟩
theorem Only.x {g : Nat} {w w' : World} (h : Only g w w') : OnlyX g w w' := ⟨fun b _ hn => h.2.1 b hn, h.2.2⟩
theorem below_x {g : Nat} {w w' : World} (h : Below w.heap.size w w') (hg : g ≤ w.heap.size) : OnlyX g w w' := ⟨fun b hb _ => h.block b hb, h.mono hg⟩
theorem Blk.onlyX {g b : Nat} {w w' : World} {T : TypeId} {cs : Array Value} (h : Blk w b T cs) (ho : OnlyX g w w') (hlt : b < w.heap.size) (hne : b ≠ g) : Blk w' b T cs := h.block (ho.1 b hlt hne)

theorem OnlyX.setNew {g : Nat} {w w' : World} (h : OnlyX g w w') {a : Addr} (ha : w.heap.size ≤ a.block) (hg : g ≤ a.block) (u : Value) : OnlyX g w (w'.setCell a u) :=
  ⟨fun b hb hn => (Below.heap_setCell w' a u b (by omega)).trans (h.1 b hb hn), h.2.setCell hg u⟩

/-- What the reading of few letters comes to. -/
def fLet (r : ByteArray × Bool) : ByteArray := (rTake (rByte r).2 (rByte r).1).1
def fSt (r : ByteArray × Bool) (n : Nat) : Nat → ByteArray × Bool
  | 0 => (rTake (rByte r).2 (rByte r).1).2
  | k + 1 => (rTake (fSt r n k) ((n + 7) / 8)).2
def fPk (r : ByteArray × Bool) (n k : Nat) : ByteArray := (rTake (fSt r n k) ((n + 7) / 8)).1
def fVal (r : ByteArray × Bool) (n : Nat) : Nat → Nat → UInt8
  | 0, _ => 0
  | k + 1, i => if strBit (fPk r n k) i = true then (tx (fLet r)).getD k 0 else fVal r n k i
def fText (r : ByteArray × Bool) (n : Nat) : List UInt8 := (List.range n).map (fVal r n (fLet r).size)
theorem fText_length (r : ByteArray × Bool) (n : Nat) : (fText r n).length = n := by simp [fText]
theorem fText_get (r : ByteArray × Bool) (n j : Nat) (h : j < n) : (fText r n).getD j 0 = fVal r n (fLet r).size j := by simp [fText, h]

theorem rTake_size (r : ByteArray × Bool) (c : Nat) : (rTake r c).1.size ≤ c := by
  unfold rTake; split
  · exact Nat.zero_le _
  · simp [ByteArray.size_extract]; omega
theorem rTake_full (r : ByteArray × Bool) (c : Nat) (h : (rTake r c).2.2 = false) : (rTake r c).1.size = c := by
  unfold rTake at h ⊢; split at h
  · cases h
  · rename_i hn; rw [if_neg hn]; simp [ByteArray.size_extract]; omega

theorem BR.setBytes {w : World} {a b c : Value} {n m : Nat} {f : Nat → Bool} (h : BR w a b c n f) {g : Nat} {F : Nat → Value} (hk : Row w g 5 m F) (j : Nat) (u : Value) : BR (w.setCell ⟨g, j, none⟩ u) a b c n f := by
  obtain ⟨gw, ga, W, e1, e2, e3, h1, h2, h3⟩ := h
  have hne : ∀ {x : Nat} {T : TypeId} {q : Nat} {F' : Nat → Value}, Row w x T q F' → T ≠ 5 → x ≠ g := by
    intro x T q F' hr hT e
    subst e
    obtain ⟨c1, q1, _⟩ := hr
    obtain ⟨c2, q2, _⟩ := hk
    rw [q1] at q2
    simp only [Option.some.injEq, Obj.cells.injEq] at q2
    exact hT q2.2.1
  exact ⟨gw, ga, W, e1, e2, e3, h1.setOther (hne h1 (by decide)) _, h2, h3.setOther (hne h3 (by decide)) _⟩

set_option maxRecDepth 10000 in
set_option maxHeartbeats 1000000 in
theorem readFew_any (g n : Nat) (r : ByteArray × Bool) (w : World) (hn : n ≤ 2000) (h : RdrP w g r) :
    Calls Try.prog 86 #[.pointer (some ⟨g, 0, none⟩), .int .i64 (n : Int)] w fun e w' => ((e = .returned (.string (bs (fText r n))) ∧ RdrP w' g (fSt r n (fLet r).size)) ∨ (e = .returned (.string ByteArray.empty) ∧ ∃ k, k < (fLet r).size ∧ (fSt r n (k + 1)).2 = true ∧ RdrP w' g (fSt r n (k + 1)))) ∧ OnlyX g w w' := by
  obtain ⟨i0, hi, hz0, hz1, hz2⟩ := info_parts Try.info5
  have hgl : g < w.heap.size := (Array.getElem?_eq_some_iff.1 h).1
  go_enter Try.func86, Try.ntmps86
  go_wp2_with (at_make; refine wpList_make_full _ rfl _ _ 60 rfl w.heap.size 5 i0 (.int .u8 0) 1 Try.underlying60 hi hz0 hz1 .i64 .i64 _ _ n rfl rfl (by omega) (by omega) (by rw [hz2]; omega) (by unfold maxLen; omega) (by omega) ?_; intro w1 hown hgr)
  have hrow := Row.made hown
  have hb1 := below_made hgr
  have hsz1 := hrow.lt
  have hR1 : RdrP w1 g r := Blk.below h hb1 hgl
  have hX1 : OnlyX g w w1 := below_x hb1 (by omega)
  clear hown hgr h hb1
  obtain ⟨G, hG⟩ : ∃ G, G = w.heap.size := ⟨_, rfl⟩
  rw [← hG] at hrow hsz1 hgl ⊢
  have hwG : w.heap.size ≤ G := by omega
  clear hG
  have HBC : Hid _ := byte_any g r w1 hR1
  have hbl := rByte_lt r
  go_wp2_with fail
  refine Calls.mono HBC.out ?_
  clear HBC hR1
  rintro en w2 ⟨rfl, hR2, hO2⟩
  have HTC : Hid _ := take_any g (rByte r).1 (rByte r).2 w2 hR2
  have hrow2 := hrow.block (hO2.2.1 G (by omega))
  have hX2 := hX1.trans hO2.x
  clear hrow hX1 hO2 hR2
  go_wp2_with fail
  refine Calls.mono HTC.out ?_
  clear HTC
  rintro en w3 ⟨rfl, hR3, hO3⟩
  have hrow3 := hrow2.block (hO3.2.1 G (by omega))
  have hX3 := hX2.trans hO3.x
  clear hrow2 hX2 hO3
  have hR3' : RdrP w3 g (fSt r n 0) := hR3
  clear hR3
  have hm256 : (fLet r).size < 256 := Nat.lt_of_le_of_lt (rTake_size _ _) hbl
  have HFT : Hid (fText r n = (List.range n).map (fVal r n (fLet r).size)) := rfl
  have HV : Hid (∀ k i, fVal r n (k + 1) i = if strBit (fPk r n k) i = true then (tx (fLet r)).getD k 0 else fVal r n k i) := fun _ _ => rfl
  have HS : Hid (∀ k, fSt r n (k + 1) = (rTake (fSt r n k) ((n + 7) / 8)).2) := fun _ => rfl
  have HP : Hid (∀ k, fPk r n k = (rTake (fSt r n k) ((n + 7) / 8)).1) := fun _ => rfl
  rw [show (rTake (rByte r).2 (rByte r).1).1 = fLet r from rfl]
  generalize hLT : fLet r = LT at *
  have HLT : Hid (fLet r = LT) := hLT
  clear hLT
  go_wp2_with fail
  go_loopw [19, 7, 8, 9, 10] (fun iv _ _ _ _ wr => ∃ k : Nat, k ≤ LT.size ∧ iv = .int .i64 (k : Int) ∧ Row wr G 5 n (IB (fVal r n k)) ∧ RdrP wr g (fSt r n k) ∧ OnlyX g w wr) (fun iv _ _ _ _ _ => LT.size - (intOf iv).toNat)
  case atStart => exact ⟨0, Nat.zero_le _, rfl, hrow3, hR3', hX3⟩
  case round =>
    clear hrow3 hR3' hX3
    obtain ⟨k, hk, rfl, hrow, hR, hX⟩ := hrel
    by_cases hlt : k < LT.size
    · go_wp2_with fail
      refine (packedSize_any n wr (by omega)).mono ?_
      rintro e w4 ⟨rfl, rfl⟩
      have HTC : Hid _ := take_any g ((n + 7) / 8) (fSt r n k) w4 hR
      clear hR
      rw [← HP.out k, ← HS.out k] at HTC
      go_wp2_with fail
      refine Calls.mono HTC.out ?_
      clear HTC
      rintro en w5 ⟨rfl, hR5, hO5⟩
      have hrow5 := hrow.block (hO5.2.1 G (by omega))
      have hX5 := hX.trans hO5.x
      clear hrow hX hO5
      have hc1 : w5.cell? ⟨g, 1, none⟩ = some (.bool (fSt r n (k + 1)).2) := Blk.cell hR5 1
      by_cases hsh : (fSt r n (k + 1)).2 = true
      · rw [hsh] at hc1
        go_wp2_with fail
        go_ret
        exact ⟨.inr ⟨rfl, k, by rw [HLT.out]; exact hlt, hsh, hR5⟩, hX5⟩
      · have hsh' : (fSt r n (k + 1)).2 = false := by simpa using hsh
        rw [hsh'] at hc1
        have hfull : (n + 7) / 8 ≤ (fPk r n k).size := by
          rw [HP.out k, rTake_full _ _ (by rw [← HS.out k]; exact hsh')]; exact Nat.le_refl _
        clear hsh hsh'
        have HUC : Hid _ := unpack_any (fPk r n k) n w5 (by omega) hfull
        clear hfull
        go_wp2_with fail
        refine Calls.mono HUC.out ?_
        clear HUC hc1
        rintro en w6 ⟨a, b, c, rfl, hBR, hb6⟩
        obtain ⟨gw, ga, e1, e2, e3⟩ : ∃ gw ga, a = .int .i64 (n : Int) ∧ b = .slice (some ⟨gw, 0, none⟩) (n / 64 + 1) (n / 64 + 1) ∧ c = .slice (some ⟨ga, 0, none⟩) (n / 64 + 1) (n / 64 + 1) := by
          obtain ⟨gw, ga, W, h1, h2, h3, _⟩ := hBR
          exact ⟨gw, ga, h1, h2, h3⟩
        subst e1 e2 e3
        have hsz5 := hX5.2.size
        have hrl := hrow5.lt
        have hrow6 := hrow5.below hb6 hrl
        have hX6 := hX5.trans (below_x hb6 (by omega))
        have hR6 : RdrP w6 g (fSt r n (k + 1)) := Blk.below hR5 hb6 (by omega)
        clear hrow5 hX5 hR5
        have HVK : Hid (∀ i, fVal r n (k + 1) i = if strBit (fPk r n k) i = true then (tx LT).getD k 0 else fVal r n k i) := HV.out k
        have hk6 := Blk.new w6 73 #[.int .i64 (n : Int), .slice (some ⟨gw, 0, none⟩) (n / 64 + 1) (n / 64 + 1), .slice (some ⟨ga, 0, none⟩) (n / 64 + 1) (n / 64 + 1)]
        have hb7 : Below w6.heap.size w6 (w6.alloc (.cells #[.int .i64 (n : Int), .slice (some ⟨gw, 0, none⟩) (n / 64 + 1) (n / 64 + 1), .slice (some ⟨ga, 0, none⟩) (n / 64 + 1) (n / 64 + 1)] 73)) := (Below.refl _ _).alloc (Nat.le_refl _) _
        have hg6 : G < w6.heap.size := hrow6.lt
        have hX10 := hX6.trans (below_x hb7 (by omega))
        have hrow10 := hrow6.below hb7 hg6
        have hR10 : RdrP _ g (fSt r n (k + 1)) := Blk.below hR6 hb7 (by omega)
        have hBR10 := hBR.below hb7
        have hb6s := hb6.size
        clear hBR hrow6 hR6 hX6 hb7 hb6
        go_wp2_with fail
        generalize w6.alloc (.cells #[.int .i64 (n : Int), .slice (some ⟨gw, 0, none⟩) (n / 64 + 1) (n / 64 + 1), .slice (some ⟨ga, 0, none⟩) (n / 64 + 1) (n / 64 + 1)] 73) = W7 at *
        have hG6 : G ≠ w6.heap.size := by omega
        have hg6' : g ≠ w6.heap.size := by omega
        have hx6 : g ≤ w6.heap.size := by omega
        have hw6 : w.heap.size ≤ w6.heap.size := by omega
        generalize w6.heap.size = g6 at *
        generalize n / 64 + 1 = nw at *
        generalize strBit (fPk r n k) = FB at *
        go_loopw [35, 10] (fun iv _ wx => ∃ i : Nat, i ≤ n ∧ iv = .int .i64 (i : Int) ∧ (∃ tf, Row wx G 5 n (IB tf) ∧ Hid (∀ j, j < i → tf j = fVal r n (k + 1) j) ∧ Hid (∀ j, i ≤ j → tf j = fVal r n k j)) ∧ Blk wx g6 73 #[.int .i64 (n : Int), .slice (some ⟨gw, 0, none⟩) nw nw, .slice (some ⟨ga, 0, none⟩) nw nw] ∧ BR wx (.int .i64 (n : Int)) (.slice (some ⟨gw, 0, none⟩) nw nw) (.slice (some ⟨ga, 0, none⟩) nw nw) n FB ∧ RdrP wx g (fSt r n (k + 1)) ∧ OnlyX g w wx) (fun iv _ _ => n - (intOf iv).toNat)
        case atStart => exact ⟨0, Nat.zero_le _, rfl, ⟨_, hrow10, fun j hj => by omega, fun j hj => rfl⟩, hk6, hBR10, hR10, hX10⟩
        case round =>
          clear hrow10 hk6 hBR10 hR10 hX10
          obtain ⟨i, hi2, rfl, ⟨tf, hrow, HT1, HT2⟩, hk7, hBR, hR, hX⟩ := hrel
          by_cases hlt2 : i < n
          · have hc0 : wr.cell? ⟨g6, 0, none⟩ = some (.int .i64 (n : Int)) := hk7.cell 0
            have hc1 : wr.cell? ⟨g6, 1, none⟩ = some (.slice (some ⟨gw, 0, none⟩) nw nw) := hk7.cell 1
            have hc2 : wr.cell? ⟨g6, 2, none⟩ = some (.slice (some ⟨ga, 0, none⟩) nw nw) := hk7.cell 2
            have HBC : Hid _ := hBR.bit (by omega) hlt2
            go_wp2_with fail
            refine Calls.mono HBC.out ?_
            clear HBC hc0 hc1 hc2
            rintro en w9 ⟨rfl, hb9⟩
            have hgw : g < wr.heap.size := (Array.getElem?_eq_some_iff.1 hR).1
            have hrow9 := hrow.below hb9 hrow.lt
            have hk9 := hk7.below hb9 hk7.lt
            have hBR9 := hBR.below hb9
            have hR9 : RdrP w9 g (fSt r n (k + 1)) := Blk.below hR hb9 hgw
            have hX9 := hX.trans (below_x hb9 (by omega))
            clear hrow hk7 hBR hR hX hb9
            have HVI : Hid (fVal r n (k + 1) i = if FB i = true then (tx LT).getD k 0 else fVal r n k i) := HVK.out i
            have hci := hrow9.cell hlt2
            have hfi := hrow9.free i
            have hq : (tx LT).getD k 0 = LT[k] := tx_getD LT k hlt
            cases hFB : FB i with
            | true =>
              have HVI' : Hid (fVal r n (k + 1) i = LT[k]) := by
                show _ = _
                rw [HVI.out, if_pos hFB, hq]
              clear HVI hq hFB
              go_wp2
              go_roundw
              case rel =>
                exact ⟨i + 1, by omega, by go_num, ⟨_, hrow9.setB i LT[k], upd_next HT1.out HVI'.out.symm, fun j hj => by rw [upd_ne _ _ _ (by omega)]; exact HT2.out j (by omega)⟩, hk9.setOther (by show g6 ≠ G; omega) _, hBR9.setBytes hrow9 i _, Blk.setOther hR9 (by show g ≠ G; omega) _, hX9.setNew (by show w.heap.size ≤ G; omega) (by show g ≤ G; omega) _⟩
              case measure => simp [intOf]; omega
            | false =>
              have HVI' : Hid (fVal r n (k + 1) i = fVal r n k i) := by
                show _ = _
                rw [HVI.out, if_neg (by rw [hFB]; decide)]
              clear HVI hq hFB
              go_wp2
              go_roundw
              case rel =>
                exact ⟨i + 1, by omega, by go_num, ⟨tf, hrow9, fun j hj => by
                  by_cases e : j = i
                  · rw [e, HVI'.out]; exact HT2.out i (Nat.le_refl _)
                  · exact HT1.out j (by omega), fun j hj => HT2.out j (by omega)⟩, hk9, hBR9, hR9, hX9⟩
              case measure => simp [intOf]; omega
          · have hin : i = n := by omega
            subst hin
            go_wp2
            go_roundw
            case rel => exact ⟨k + 1, by omega, by go_num, hrow.congr (fun j hj => by rw [IB_at, IB_at, HT1.out j hj]), hR, hX⟩
            case measure => simp [intOf]; omega
    · have hkm : k = LT.size := by omega
      subst hkm
      have hcv : ∀ cap, (convert 60 9 (.slice (some ⟨G, 0, none⟩) n cap)).run Try.prog wr = .ok (.string (bs (fText r n))) wr := by
        intro cap
        have hl := fText_length r n
        have hrow' : Row wr G 5 (fText r n).length (IB (fVal r n LT.size)) := by rw [hl]; exact hrow
        have hc := conv_row (cap := cap) hrow' (fun j hj => by rw [fText_get r n j (by omega), HLT.out])
        rw [hl] at hc
        exact hc
      go_wp2
      go_ret
      exact ⟨.inl ⟨rfl, by rw [HLT.out]; exact hR⟩, hX⟩
end Go.Proofs.Ytkebgnpifmcmaaa
