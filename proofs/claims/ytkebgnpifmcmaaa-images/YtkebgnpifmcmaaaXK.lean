import Derived.Test.YtkebgnpifmcmaaaXJ
import Derived.Test.YtkebgnpifmcmaaaLf
namespace Go.Proofs.Ytkebgnpifmcmaaa
open Go.RowKit

theorem infoKept : (Try.prog.info? 75).map (·.size) = some 4 := by kernel_rfl
/-- Is a row's place kept? -/
def isK (f : Nat → Nat) (rate row : Nat) : Bool := decide (f row % rate = 0)
/-- The places that are kept, in the order of the rows. -/
def keptL (f : Nat → Nat) (rate : Nat) : Nat → List Nat
  | 0 => []
  | k + 1 => keptL f rate k ++ (if isK f rate k then [f k] else [])
theorem keptL_length (f : Nat → Nat) (rate k : Nat) : (keptL f rate k).length ≤ k := by
  induction k with
  | zero => exact Nat.le_refl _
  | succ k ih => simp only [keptL, List.length_append]; split <;> simp <;> omega
/-- Numbers, as cells. -/
def NL (l : List Nat) : List Value := l.map (fun x : Nat => Value.int .i64 (x : Int))
theorem NL_snoc (l : List Nat) (x : Nat) : NL l ++ [.int .i64 (x : Int)] = NL (l ++ [x]) := by simp [NL]

theorem keep1_any (gp gr gs n cap rate row : Nat) (P : Nat → Nat) (w : World) (hrow : row < n) (hr0 : 0 < rate) (hp : P row ≤ 3000) (h1 : Blk w gp 22 #[.slice (some ⟨gs, 0, none⟩) n cap]) (h2 : Blk w gr 3 #[.int .i64 (rate : Int)]) (h3 : Row w gs 3 n (IN P)) :
    Calls Try.prog 96 #[.int .i64 (row : Int), .pointer (some ⟨gp, 0, none⟩), .pointer (some ⟨gr, 0, none⟩)] w fun e w' => e = .returned (.bool (isK P rate row)) ∧ Below w.heap.size w w' := by
  have hc1 : w.cell? ⟨gp, 0, none⟩ = some (.slice (some ⟨gs, 0, none⟩) n cap) := h1.cell 0
  have hc2 : w.cell? ⟨gr, 0, none⟩ = some (.int .i64 (rate : Int)) := h2.cell 0
  have hc3 := h3.cell hrow
  rw [IN_at] at hc3
  have hq1 : (row : Int) < (n : Int) := by omega
  have hq2 : (rate : Int) ≠ 0 := by omega
  have hv : Hid (((P row : Int) % (rate : Int) == 0) = isK P rate row) := by
    show ((P row : Int) % (rate : Int) == 0) = isK P rate row
    rw [show (P row : Int) % (rate : Int) = ((P row % rate : Nat) : Int) from by simp]
    unfold isK
    by_cases e : P row % rate = 0
    · simp [e]
    · rw [decide_eq_false e]; simp only [beq_eq_false_iff_ne]; omega
  go_enter Try.func96, Try.ntmps96
  go_wp2_with fail
  go_quiet (fail)
  go_wp2
  go_ret
  exact ⟨by rw [← hv.out]; rfl, bdrewN (Below.refl _ _) _⟩
theorem enterKeep1 (args : Array Value) (w : World) : (callFunc 96 args).run Try.prog w = .ok (.enter 96 args) w := Go.MuLone.run_callFunc_enter (P := Try.prog) Try.func96 (by kernel_rfl) rfl args w

theorem own_base {w : World} {b b' z n : Nat} {e : TypeId} {v : Value} {xs : List Value} (h : w.ownsRow b e z v n xs) (hb : b' ≤ b) : w.ownsRow b' e z v n xs := by
  refine ⟨h.1, ?_⟩
  rcases h.2 with hn | ⟨g, cap, cur, rfl, hbs, rest⟩
  · exact .inl hn
  · exact .inr ⟨g, cap, cur, rfl, Nat.le_trans hb hbs, rest⟩
theorem BR.keepAll {w w' : World} {gw ga n : Nat} {f : Nat → Bool} (h : BR w (.int .i64 (n : Int)) (.slice (some ⟨gw, 0, none⟩) (n / 64 + 1) (n / 64 + 1)) (.slice (some ⟨ga, 0, none⟩) (n / 64 + 1) (n / 64 + 1)) n f) (h1 : w'.heap[gw]? = w.heap[gw]?) (h2 : w'.heap[ga]? = w.heap[ga]?) : BR w' (.int .i64 (n : Int)) (.slice (some ⟨gw, 0, none⟩) (n / 64 + 1) (n / 64 + 1)) (.slice (some ⟨ga, 0, none⟩) (n / 64 + 1) (n / 64 + 1)) n f := by
  obtain ⟨gw', ga', W, e1, e2, e3, r4, r5, r6⟩ := h
  obtain rfl : gw = gw' := by simpa using e2
  obtain rfl : ga = ga' := by simpa using e3
  exact ⟨gw, ga, W, rfl, rfl, rfl, r4.block h1, r5, r6.block h2⟩
theorem own_ne {w : World} {base z n g : Nat} {e : TypeId} {v : Value} {xs : List Value} (h : w.ownsRow base e z v n xs) (hg : g < base) : some g ≠ v.ownBlock := by
  intro x
  rcases h.2 with ⟨rfl, _⟩ | ⟨g', cap, cur, rfl, hbs, _⟩
  · cases x
  · simp only [Value.ownBlock, Option.some.injEq] at x
    omega
theorem inv_step {R P : Nat → Nat} {n p : Nat} (hinj : ∀ i j, i < n → j < n → R i = R j → i = j) (hp : p < n) (h : ∀ q, q < p → P (R q) = q) : ∀ q, q < p + 1 → upd P (R p) p (R q) = q := by
  intro q hq
  by_cases e : q = p
  · subst e; rw [upd_at]
  · rw [upd_ne _ _ _ (fun h2 => e (hinj _ _ (by omega) hp h2))]; exact h q (by omega)

set_option maxRecDepth 10000 in
set_option maxHeartbeats 1000000 in
theorem keep_any (gi n cap rate : Nat) (R f : Nat → Nat) (w : World) (hn : n ≤ 2001) (hr0 : 0 < rate) (hR : ∀ p, p < n → R p < n) (hinj : ∀ i j, i < n → j < n → R i = R j → i = j) (hfR : ∀ p, p < n → f (R p) = p) (hf : ∀ r, r < n → f r < n ∧ R (f r) = r) (hrow : Row w gi 3 n (IN R)) :
    Calls Try.prog 81 #[.slice (some ⟨gi, 0, none⟩) n cap, .int .i64 (rate : Int)] w fun e w' => ∃ a b c pl, e = .returned (.agg #[a, b, c, pl]) ∧ BR w' a b c n (isK f rate) ∧ w'.ownsRow w.heap.size 3 1 pl (keptL f rate n).length (NL (keptL f rate n)) ∧ Below w.heap.size w w' := by
  obtain ⟨i0, hi, hz0, hz1, hz2⟩ := info_parts Try.info3
  have HRl : Hid _ := hR
  have HI : Hid _ := hinj
  have HFR : Hid _ := hfR
  have HF : Hid _ := hf
  clear hR hinj hfR hf
  have hmf : ∀ (fn : Fn) (first cap : Array Value) (w : World), (Instr.makeFunc fn first cap).run Try.prog w = .ok (.func fn first cap) w := fun _ _ _ _ => rfl
  have hgi := hrow.lt
  go_enter Try.func81, Try.ntmps81
  go_wp2_with (at_make; refine wpList_make_full _ rfl _ _ 22 rfl 0 3 i0 (.int .i64 0) 1 Try.underlying22 hi hz0 hz1 .i64 .i64 _ _ n rfl rfl (by omega) (by omega) (by rw [hz2]; omega) (by unfold maxLen; omega) (Nat.zero_le _) ?_; intro w2 hown hgr)
  have hrP0 := Row.made hown
  obtain ⟨G, hG⟩ : ∃ G, G = w.heap.size := ⟨_, rfl⟩
  have HG : Hid (G = w.heap.size) := hG
  have hW1 : ((w.alloc (.cells #[.int .i64 (rate : Int)] 3)).alloc (.cells #[.int .i64 0, .slice none 0 0, .slice none 0 0, .slice none 0 0] 75)).heap.size = G + 1 + 1 := by rw [hG]; simp
  rw [hW1] at hrP0
  have kA0 := (Blk.new w 3 #[.int .i64 (rate : Int)]).alloc (.cells #[.int .i64 0, .slice none 0 0, .slice none 0 0, .slice none 0 0] 75)
  have kB0 := Blk.new (w.alloc (.cells #[.int .i64 (rate : Int)] 3)) 75 #[.int .i64 0, .slice none 0 0, .slice none 0 0, .slice none 0 0]
  rw [show (w.alloc (.cells #[.int .i64 (rate : Int)] 3)).heap.size = w.heap.size + 1 from by simp] at kB0
  have hb0 : Below w.heap.size w ((w.alloc (.cells #[.int .i64 (rate : Int)] 3)).alloc (.cells #[.int .i64 0, .slice none 0 0, .slice none 0 0, .slice none 0 0] 75)) := ((Below.refl _ _).alloc (Nat.le_refl _) _).alloc (by simp) _
  have hrow0 := (hrow.alloc (.cells #[.int .i64 (rate : Int)] 3)).alloc (.cells #[.int .i64 0, .slice none 0 0, .slice none 0 0, .slice none 0 0] 75)
  rw [← hG] at kA0 kB0 hb0 hgi ⊢
  clear hrow
  generalize (w.alloc (.cells #[.int .i64 (rate : Int)] 3)).alloc (.cells #[.int .i64 0, .slice none 0 0, .slice none 0 0, .slice none 0 0] 75) = W1 at *
  have kA2 := (kA0.grown hgr (by simp)).alloc (.cells #[.slice (some ⟨G + 1 + 1, 0, none⟩) n n] 22)
  have kB2 := (kB0.grown hgr (by simp)).alloc (.cells #[.slice (some ⟨G + 1 + 1, 0, none⟩) n n] 22)
  have hrow2 := (hrow0.grown hgr (by simp)).alloc (.cells #[.slice (some ⟨G + 1 + 1, 0, none⟩) n n] 22)
  have hrP2 := hrP0.alloc (.cells #[.slice (some ⟨G + 1 + 1, 0, none⟩) n n] 22)
  have kP2 := Blk.new w2 22 #[.slice (some ⟨G + 1 + 1, 0, none⟩) n n]
  have hltP := hrP0.lt
  have hb2 := (hb0.grown hgr (by omega) (fun _ h => by cases h)).alloc (show G ≤ w2.heap.size by omega) (.cells #[.slice (some ⟨G + 1 + 1, 0, none⟩) n n] 22)
  clear hG hown hgr hrP0 kA0 kB0 hrow0 hW1
  obtain ⟨gp, hgp⟩ : ∃ gp, gp = w2.heap.size := ⟨_, rfl⟩
  rw [← hgp] at kP2 hltP ⊢
  clear hgp
  generalize w2.alloc (.cells #[.slice (some ⟨G + 1 + 1, 0, none⟩) n n] 22) = V at *
  go_loopw [17, 6, 7] (fun iv _ _ wr => ∃ p : Nat, p ≤ n ∧ iv = .int .i64 (p : Int) ∧ (∃ P, Row wr (G + 1 + 1) 3 n (IN P) ∧ Hid (∀ q, q < p → P (R q) = q)) ∧ Row wr gi 3 n (IN R) ∧ Blk wr gp 22 #[.slice (some ⟨G + 1 + 1, 0, none⟩) n n] ∧ Blk wr G 3 #[.int .i64 (rate : Int)] ∧ Blk wr (G + 1) 75 #[.int .i64 0, .slice none 0 0, .slice none 0 0, .slice none 0 0] ∧ Below G w wr) (fun iv _ _ _ => n - (intOf iv).toNat)
  case atStart => exact ⟨0, Nat.zero_le _, rfl, ⟨fun _ => 0, hrP2, fun q hq => by omega⟩, hrow2, kP2, kA2, kB2, hb2⟩
  case round =>
    clear hrP2 hrow2 kP2 kA2 kB2 hb2
    obtain ⟨p, hp, rfl, ⟨P, hrP, HP⟩, hrow, kP, kA, kB, hb⟩ := hrel
    have hcP : wr.cell? ⟨gp, 0, none⟩ = some (.slice (some ⟨G + 1 + 1, 0, none⟩) n n) := kP.cell 0
    by_cases hlt : p < n
    · have hc1 := hrow.cell hlt
      rw [IN_at] at hc1
      have hRp := HRl.out p hlt
      have hc2 := hrP.cell hRp
      have hfz := hrP.free (R p)
      have HN : Hid _ := inv_step HI.out hlt HP.out
      go_wp2
      go_roundw
      case rel => exact ⟨p + 1, by omega, by go_num, ⟨_, hrP.setN (R p) p, HN⟩, hrow.setOther (by show gi ≠ G + 1 + 1; omega) _, kP.setOther (by show gp ≠ G + 1 + 1; omega) _, kA.setOther (by show G ≠ G + 1 + 1; omega) _, kB.setOther (by show G + 1 ≠ G + 1 + 1; omega) _, hb.setCell (by show G ≤ G + 1 + 1; omega) _⟩
      case measure => simp [intOf]; omega
    · have hpn : p = n := by omega
      subst hpn
      have hrf : Row wr (G + 1 + 1) 3 p (IN f) := hrP.congr (fun r hr => by
        have h1 := HF.out r hr
        have h2 := HP.out (f r) h1.1
        rw [h1.2] at h2
        simp only [IN, h2])
      clear hrP HP hrow
      have HC : Hid (∀ i, i < p → ∀ w1, Below wr.heap.size wr w1 → Calls Try.prog 96 (#[.int .i64 (i : Int)] ++ #[.pointer (some ⟨gp, 0, none⟩), .pointer (some ⟨G, 0, none⟩)]) w1 fun e w' => e = .returned (.bool (isK f rate i)) ∧ Below w1.heap.size w1 w') := fun i hi w1 hb1 =>
        keep1_any gp G (G + 1 + 1) p p rate i f w1 hi hr0 (by have := (HF.out i hi).1; omega) (kP.below hb1 kP.lt) (kA.below hb1 kA.lt) (hrf.below hb1 hrf.lt)
      go_wp2_with fail
      refine (bitOf_any p 96 #[.pointer (some ⟨gp, 0, none⟩), .pointer (some ⟨G, 0, none⟩)] (isK f rate) wr hn enterKeep1 HC.out).mono ?_
      clear HC
      rintro e w3 ⟨gw, ga, rfl, ⟨W, hrw, hbits⟩, hra, hgw, hga, hb3⟩
      have hbr3 : BR w3 _ _ _ p (isK f rate) := ⟨gw, ga, W, rfl, rfl, rfl, hrw, hbits, hra⟩
      have hsz3 := hb3.size
      have hGr : G ≤ wr.heap.size := Nat.le_of_lt kA.lt
      have kP3 := kP.below hb3 kP.lt
      have kA3 := kA.below hb3 kA.lt
      have kB3 := kB.below hb3 kB.lt
      have hgw1 : G + 1 < gw := Nat.lt_of_lt_of_le kB.lt hgw
      have hga1 : G + 1 < ga := Nat.lt_of_lt_of_le kB.lt hga
      have hrf3 := hrf.below hb3 hrf.lt
      have hb30 := hb.trans (hb3.mono hGr)
      clear hrw hbits hra kP kA kB hrf hb hb3 hcP
      have m1 := kP3.alloc (.cells #[.int .i64 (p : Int), .slice (some ⟨gw, 0, none⟩) (p / 64 + 1) (p / 64 + 1), .slice (some ⟨ga, 0, none⟩) (p / 64 + 1) (p / 64 + 1), .slice none 0 0] 75)
      have m2 := kA3.alloc (.cells #[.int .i64 (p : Int), .slice (some ⟨gw, 0, none⟩) (p / 64 + 1) (p / 64 + 1), .slice (some ⟨ga, 0, none⟩) (p / 64 + 1) (p / 64 + 1), .slice none 0 0] 75)
      have m3 := kB3.alloc (.cells #[.int .i64 (p : Int), .slice (some ⟨gw, 0, none⟩) (p / 64 + 1) (p / 64 + 1), .slice (some ⟨ga, 0, none⟩) (p / 64 + 1) (p / 64 + 1), .slice none 0 0] 75)
      have m4 := hrf3.alloc (.cells #[.int .i64 (p : Int), .slice (some ⟨gw, 0, none⟩) (p / 64 + 1) (p / 64 + 1), .slice (some ⟨ga, 0, none⟩) (p / 64 + 1) (p / 64 + 1), .slice none 0 0] 75)
      have m5 := hbr3.below ((Below.refl _ _).alloc (Nat.le_refl _) (.cells #[.int .i64 (p : Int), .slice (some ⟨gw, 0, none⟩) (p / 64 + 1) (p / 64 + 1), .slice (some ⟨ga, 0, none⟩) (p / 64 + 1) (p / 64 + 1), .slice none 0 0] 75))
      have m6 := Blk.new w3 75 #[.int .i64 (p : Int), .slice (some ⟨gw, 0, none⟩) (p / 64 + 1) (p / 64 + 1), .slice (some ⟨ga, 0, none⟩) (p / 64 + 1) (p / 64 + 1), .slice none 0 0]
      have m7 := hb30.alloc (show G ≤ w3.heap.size by omega) (.cells #[.int .i64 (p : Int), .slice (some ⟨gw, 0, none⟩) (p / 64 + 1) (p / 64 + 1), .slice (some ⟨ga, 0, none⟩) (p / 64 + 1) (p / 64 + 1), .slice none 0 0] 75)
      have hcP3 : ∀ o, (w3.alloc o).cell? ⟨gp, 0, none⟩ = some (.slice (some ⟨G + 1 + 1, 0, none⟩) p p) := fun o => (kP3.alloc o).cell 0
      have hl1 := kP3.lt
      have hl2 := kB3.lt
      have hl3 := hrf3.lt
      have hl4 : gw < w3.heap.size := by obtain ⟨_, _, _, _, e1, _, r1, _⟩ := id hbr3; simp at e1; rw [e1]; exact r1.lt
      have hl5 : ga < w3.heap.size := by obtain ⟨_, _, _, _, _, e1, _, _, r1⟩ := id hbr3; simp at e1; rw [e1]; exact r1.lt
      go_wp2_with fail
      obtain ⟨gk, hgk⟩ : ∃ gk, gk = w3.heap.size := ⟨_, rfl⟩
      have hs7 : (w3.alloc (.cells #[.int .i64 (p : Int), .slice (some ⟨gw, 0, none⟩) (p / 64 + 1) (p / 64 + 1), .slice (some ⟨ga, 0, none⟩) (p / 64 + 1) (p / 64 + 1), .slice none 0 0] 75)).heap.size = gk + 1 := by rw [hgk]; simp
      rw [← hgk] at m6 hl1 hl2 hl3 hl4 hl5 ⊢
      clear hgk hcP3 kP3 kA3 kB3 hrf3 hbr3 hb30 hsz3
      generalize w3.alloc (.cells #[.int .i64 (p : Int), .slice (some ⟨gw, 0, none⟩) (p / 64 + 1) (p / 64 + 1), .slice (some ⟨ga, 0, none⟩) (p / 64 + 1) (p / 64 + 1), .slice none 0 0] 75) = V3 at *
      go_loopw [35, 10, 11] (fun iv _ _ wr => ∃ k : Nat, k ≤ p ∧ iv = .int .i64 (k : Int) ∧ (∃ pl, Blk wr gk 75 #[.int .i64 (p : Int), .slice (some ⟨gw, 0, none⟩) (p / 64 + 1) (p / 64 + 1), .slice (some ⟨ga, 0, none⟩) (p / 64 + 1) (p / 64 + 1), pl] ∧ wr.ownsRow (gk + 1) 3 1 pl (keptL f rate k).length (NL (keptL f rate k))) ∧ gk < wr.heap.size ∧ Row wr (G + 1 + 1) 3 p (IN f) ∧ Blk wr gp 22 #[.slice (some ⟨G + 1 + 1, 0, none⟩) p p] ∧ Blk wr G 3 #[.int .i64 (rate : Int)] ∧ Blk wr (G + 1) 75 #[.int .i64 0, .slice none 0 0, .slice none 0 0, .slice none 0 0] ∧ BR wr (.int .i64 (p : Int)) (.slice (some ⟨gw, 0, none⟩) (p / 64 + 1) (p / 64 + 1)) (.slice (some ⟨ga, 0, none⟩) (p / 64 + 1) (p / 64 + 1)) p (isK f rate) ∧ Below G w wr) (fun iv _ _ _ => p - (intOf iv).toNat)
      case atStart => exact ⟨0, Nat.zero_le _, rfl, ⟨_, m6, World.ownsRow_nil _ _ _ _⟩, by omega, m4, m1, m2, m3, m5, m7⟩
      case round =>
        clear m1 m2 m3 m4 m5 m6 m7 hs7
        obtain ⟨k, hk, rfl, ⟨pl, kK, hown⟩, hgk, hrf, kP, kA, kB, hbr, hb⟩ := hrel
        by_cases hlt2 : k < p
        · have hc1 := hrf.cell hlt2
          rw [IN_at] at hc1
          have hfk := (HF.out k hlt2).1
          go_wp2_with fail
          refine (keep1_any gp G (G + 1 + 1) p p rate k f wr hlt2 hr0 (by omega) kP kA hrf).mono ?_
          rintro e w4 ⟨rfl, hb4⟩
          have n1 := kK.below hb4 kK.lt
          have n2 := own_below3 hown hb4
          have n3 := hrf.below hb4 hrf.lt
          have n4 := kP.below hb4 kP.lt
          have n5 := kA.below hb4 kA.lt
          have n6 := kB.below hb4 kB.lt
          have n7 := hbr.below hb4
          have n8 := hb.trans (hb4.mono (Nat.le_of_lt kA.lt))
          have n9 : gk < w4.heap.size := Nat.lt_of_lt_of_le hgk hb4.size
          have hkl := keptL_length f rate k
          clear kK hown hrf kP kA kB hbr hb hgk hb4
          by_cases hK : isK f rate k = true
          · have HN : Hid (keptL f rate (k + 1) = keptL f rate k ++ [f k]) := by
              show keptL f rate (k + 1) = _
              simp only [keptL, hK, if_true]
            rw [hK]
            have hcK : w4.cell? ⟨gk, 3, none⟩ = some pl := n1.cell 3
            have hcKo : ∀ o, (w4.alloc o).cell? ⟨gk, 3, none⟩ = some pl := fun o => (n1.alloc o).cell 3
            go_wp2_with (at_builtin; refine wpList_append_own _ rfl (.tmp 44) (.tmp 46) 22 rfl (gk + 1) 3 i0 (.int .i64 0) 1 8 Try.underlying22 hi hz0 hz1 hz2 rfl (by decide) pl (keptL f rate k).length _ rfl (n2.alloc _) ⟨w4.heap.size, 0, none⟩ 1 1 [.int .i64 (f k : Int)] rfl rfl (cell_one_new _ _ _) (by simp; rfl) (by unfold maxLen; omega) (by omega) (by simp; omega) ?_; intro v' w5 hown5 hgr5 _; obtain ⟨g', cap', rfl⟩ := own_form hown5 (by omega); have o1 := (n1.alloc (.cells #[.int .i64 (f k : Int)] 3)).grown hgr5 (own_ne n2 (by omega)); have hc5 : w5.cell? ⟨gk, 3, none⟩ = some pl := o1.cell 3; have hf5 := o1.free 3)
            have o3 := (n3.alloc (.cells #[.int .i64 (f k : Int)] 3)).grown hgr5 (own_ne n2 (by omega))
            have o4 := (n4.alloc (.cells #[.int .i64 (f k : Int)] 3)).grown hgr5 (own_ne n2 (by omega))
            have o5 := (n5.alloc (.cells #[.int .i64 (f k : Int)] 3)).grown hgr5 (own_ne n2 (by omega))
            have o6 := (n6.alloc (.cells #[.int .i64 (f k : Int)] 3)).grown hgr5 (own_ne n2 (by omega))
            have o7 := (n7.below ((Below.refl _ _).alloc (Nat.le_refl _) (.cells #[.int .i64 (f k : Int)] 3))).keepAll (hgr5.block gw (by simp; omega) (own_ne n2 (by omega))) (hgr5.block ga (by simp; omega) (own_ne n2 (by omega)))
            have o8 : Below G w w5 := (n8.alloc (show G ≤ w4.heap.size by omega) _).grown hgr5 (by simp; omega) (fun g hg => Nat.le_trans (by omega) ((n2.alloc (.cells #[.int .i64 (f k : Int)] 3)).lt g hg).1)
            rw [NL_snoc] at hown5
            have hsz5 := hgr5.size
            simp only [World.size_alloc] at hsz5
            go_roundw
            case rel =>
              refine ⟨k + 1, by omega, by go_num, ⟨_, o1.set 3 _, ?_⟩, ?_, o3.setOther (by show G + 1 + 1 ≠ gk; omega) _, o4.setOther (by show gp ≠ gk; omega) _, o5.setOther (by show G ≠ gk; omega) _, o6.setOther (by show G + 1 ≠ gk; omega) _, o7.keepAll (Below.heap_setCell _ _ _ _ (by show gw ≠ gk; omega)) (Below.heap_setCell _ _ _ _ (by show ga ≠ gk; omega)), o8.setCell (by show G ≤ gk; omega) _⟩
              · rw [HN.out, List.length_append]
                exact own_setOther hown5 _ _ (own_ne hown5 (by show gk < gk + 1; omega))
              · simp; omega
            case measure => simp [intOf]; omega
          · have hK' : isK f rate k = false := by simpa using hK
            have HN : Hid (keptL f rate (k + 1) = keptL f rate k) := by
              show keptL f rate (k + 1) = _
              simp [keptL, hK']
            rw [hK']
            go_wp2
            go_roundw
            case rel => exact ⟨k + 1, by omega, by go_num, ⟨pl, n1, by rw [HN.out]; exact n2⟩, n9, n3, n4, n5, n6, n7, n8⟩
            case measure => simp [intOf]; omega
        · have hkp : k = p := by omega
          subst hkp
          have hd0 : wr.cell? ⟨gk, 0, none⟩ = some (.int .i64 (k : Int)) := kK.cell 0
          have hd1 : wr.cell? ⟨gk, 1, none⟩ = some (.slice (some ⟨gw, 0, none⟩) (k / 64 + 1) (k / 64 + 1)) := kK.cell 1
          have hd2 : wr.cell? ⟨gk, 2, none⟩ = some (.slice (some ⟨ga, 0, none⟩) (k / 64 + 1) (k / 64 + 1)) := kK.cell 2
          have hd3 : wr.cell? ⟨gk, 3, none⟩ = some pl := kK.cell 3
          have he0 : wr.cell? ⟨G + 1, 0, none⟩ = some (.int .i64 0) := kB.cell 0
          have he1 : wr.cell? ⟨G + 1, 1, none⟩ = some (.slice none 0 0) := kB.cell 1
          have he2 : wr.cell? ⟨G + 1, 2, none⟩ = some (.slice none 0 0) := kB.cell 2
          have he3 : wr.cell? ⟨G + 1, 3, none⟩ = some (.slice none 0 0) := kB.cell 3
          have hf0 := kB.free 0
          have hf1 := kB.free 1
          have hf2 := kB.free 2
          have hf3 := kB.free 3
          have hpv : ∃ ao m cp, pl = .slice ao m cp := by
            rcases hown.2 with ⟨rfl, _⟩ | ⟨g', cp, cur, rfl, _⟩
            · exact ⟨_, _, _, rfl⟩
            · exact ⟨_, _, _, rfl⟩
          obtain ⟨ao, m, cp, rfl⟩ := hpv
          go_wp2
          have hne : some (G + 1) ≠ (Value.slice ao m cp).ownBlock := own_ne hown (by omega)
          have q1 := fun (W : World) (j : Nat) (u : Value) => Below.heap_setCell W ⟨G + 1, j, none⟩ u gw (by show gw ≠ G + 1; omega)
          have q2 := fun (W : World) (j : Nat) (u : Value) => Below.heap_setCell W ⟨G + 1, j, none⟩ u ga (by show ga ≠ G + 1; omega)
          have hownG := own_base (own_setOther (own_setOther (own_setOther (own_setOther hown ⟨G + 1, 0, none⟩ (.int .i64 (k : Int)) hne) ⟨G + 1, 1, none⟩ (.slice (some ⟨gw, 0, none⟩) (k / 64 + 1) (k / 64 + 1)) hne) ⟨G + 1, 2, none⟩ (.slice (some ⟨ga, 0, none⟩) (k / 64 + 1) (k / 64 + 1)) hne) ⟨G + 1, 3, none⟩ (.slice ao m cp) hne) (show G ≤ gk + 1 by omega)
          rw [HG.out] at hownG
          refine bodyPost_ret (v := .agg #[.int .i64 (k : Int), .slice (some ⟨gw, 0, none⟩) (k / 64 + 1) (k / 64 + 1), .slice (some ⟨ga, 0, none⟩) (k / 64 + 1) (k / 64 + 1), .slice ao m cp]) (results_cell_row (P := Try.prog) rfl _ _ (G + 1) 75 _ (0, 0) _ rfl ((((kB.set 0 _).set 1 _).set 2 _).set 3 _) Try.underlying75 rfl infoKept) rfl ⟨_, _, _, _, rfl, ?_, ?_, ?_⟩
          · exact (((hbr.keepAll (q1 _ 0 _) (q2 _ 0 _)).keepAll (q1 _ 1 _) (q2 _ 1 _)).keepAll (q1 _ 2 _) (q2 _ 2 _)).keepAll (q1 _ 3 _) (q2 _ 3 _)
          · rw [HG.out]; exact hownG
          · rw [← HG.out]; exact (((hb.setCell (by show G ≤ G + 1; omega) _).setCell (by show G ≤ G + 1; omega) _).setCell (by show G ≤ G + 1; omega) _).setCell (by show G ≤ G + 1; omega) _
end Go.Proofs.Ytkebgnpifmcmaaa
