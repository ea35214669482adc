import Derived.Test.YtkebgnpifmcmaaaXB
import Derived.Conc.MuLone
namespace Go.Proofs.Ytkebgnpifmcmaaa
open Go.RowKit

/-- A row of bits, as three values. -/
def BR (w : World) (a b c : Value) (n : Nat) (f : Nat → Bool) : Prop :=
  ∃ gw ga W, a = .int .i64 (n : Int) ∧ b = .slice (some ⟨gw, 0, none⟩) (n / 64 + 1) (n / 64 + 1) ∧ c = .slice (some ⟨ga, 0, none⟩) (n / 64 + 1) (n / 64 + 1) ∧
    Row w gw 142 (n / 64 + 1) (IU W) ∧ Bits W (n / 64 + 1) (ct f n) ∧ Row w ga 3 (n / 64 + 1) (IN fun k => cntB (ct f n) (64 * k))
theorem BR.below {w w' : World} {a b c : Value} {n : Nat} {f : Nat → Bool} (h : BR w a b c n f) (hb : Below w.heap.size w w') : BR w' a b c n f := by
  obtain ⟨gw, ga, W, h1, h2, h3, h4, h5, h6⟩ := h
  exact ⟨gw, ga, W, h1, h2, h3, h4.below hb h4.lt, h5, h6.below hb h6.lt⟩

theorem cnt_ct (f : Nat → Bool) (n m : Nat) (h : m ≤ n) : cntB (ct f n) m = cntB f m := cntB_congr (fun i hi => ct_lt (by omega))

theorem enterUnpack (args : Array Value) (w : World) : (callFunc 105 args).run Try.prog w = .ok (.enter 105 args) w := Go.MuLone.run_callFunc_enter (P := Try.prog) Try.func105 (by kernel_rfl) rfl args w

theorem u8bit (x : UInt8) (r : Nat) : (bits BinOp.and IntKind.u8 ((x.toNat : Int) / 2 ^ r) 1 == 1) = x.toNat.testBit r := by
  have h1 : ((x.toNat : Int) / 2 ^ r) = ((x.toNat / 2 ^ r : Nat) : Int) := by simp
  have hx := x.toNat_lt
  have h2 : x.toNat / 2 ^ r < 256 := Nat.lt_of_le_of_lt (Nat.div_le_self _ _) (by simpa using hx)
  rw [h1, show (1 : Int) = ((1 : Nat) : Int) from rfl, u8_and_nat _ _ h2 (by omega), Nat.testBit, Nat.shiftRight_eq_div_pow, Nat.and_comm]
  have h3 : 1 &&& (x.toNat / 2 ^ r) = (x.toNat / 2 ^ r) % 2 := by rw [Nat.and_comm, show (1 : Nat) = 2 ^ 1 - 1 from rfl, Nat.and_two_pow_sub_one_eq_mod]
  rw [h3]
  rcases Nat.mod_two_eq_zero_or_one (x.toNat / 2 ^ r) with h | h <;> rw [h] <;> rfl

theorem unpack1_any (s : ByteArray) (i g : Nat) (w : World) (hi : i / 8 < s.size) (hn : i ≤ 100000) (hg : Blk w g 9 #[.string s]) :
    Calls Try.prog 105 #[.int .i64 (i : Int), .pointer (some ⟨g, 0, none⟩)] w fun e w' => e = .returned (.bool ((s[i / 8]).toNat.testBit (i % 8))) ∧ w' = w := by
  have hc : w.cell? ⟨g, 0, none⟩ = some (.string s) := hg.cell 0
  have hv : Hid _ := u8bit s[i / 8] (i % 8)
  go_enter Try.func105, Try.ntmps105
  go_wp2
  go_ret
  exact ⟨by rw [← hv.out]; rfl, rfl⟩

def strBit (s : ByteArray) (i : Nat) : Bool := if h : i / 8 < s.size then (s[i / 8]).toNat.testBit (i % 8) else false
theorem strBit_lt (s : ByteArray) (i : Nat) (h : i / 8 < s.size) : strBit s i = (s[i / 8]).toNat.testBit (i % 8) := by simp [strBit, h]

set_option maxRecDepth 10000 in
theorem unpack_any (s : ByteArray) (n : Nat) (w : World) (hn : n ≤ 2001) (hs : (n + 7) / 8 ≤ s.size) :
    Calls Try.prog 99 #[.string s, .int .i64 (n : Int)] w fun e w' => ∃ a b c, e = .returned (.agg #[a, b, c]) ∧ BR w' a b c n (strBit s) ∧ Below w.heap.size w w' := by
  have hmf : ∀ (fn : Fn) (first cap : Array Value) (w : World), (Instr.makeFunc fn first cap).run Try.prog w = .ok (.func fn first cap) w := fun _ _ _ _ => rfl
  have hk0 := Blk.new w 9 #[.string s]
  have hk1 := Blk.new (w.alloc (.cells #[.string s] 9)) 73 #[.int .i64 0, .slice none 0 0, .slice none 0 0]
  have hk2 := hk0.alloc (.cells #[.int .i64 0, .slice none 0 0, .slice none 0 0] 73)
  have hb0 : Below w.heap.size w ((w.alloc (.cells #[.string s] 9)).alloc (.cells #[.int .i64 0, .slice none 0 0, .slice none 0 0] 73)) := ((Below.refl _ _).alloc (Nat.le_refl _) _).alloc (by simp) _
  rw [show (w.alloc (.cells #[.string s] 9)).heap.size = w.heap.size + 1 from by simp] at hk1
  go_enter Try.func99, Try.ntmps99
  go_wp2_with fail
  generalize hW : (w.alloc (.cells #[.string s] 9)).alloc (.cells #[.int .i64 0, .slice none 0 0, .slice none 0 0] 73) = W0 at *
  have hs0 : W0.heap.size = w.heap.size + 1 + 1 := by rw [← hW]; simp
  clear hk0 hW
  refine (bitOf_any n 105 #[.pointer (some ⟨w.heap.size, 0, none⟩)] (strBit s) W0 hn enterUnpack (fun i hi w1 hb1 => ?_)).mono ?_
  · rw [strBit_lt s i (by omega)]
    exact (unpack1_any s i w.heap.size w1 (by omega) (by omega) (hk2.below hb1 (by omega))).mono (fun e w' h => ⟨h.1, h.2 ▸ Below.refl _ _⟩)
  · rintro e w1 ⟨gw, ga, rfl, ⟨W, hrw, hbits⟩, hra, hgw, hga, hb1⟩
    have hk3 := hk1.below hb1 (by omega)
    have hf0 : w1.cell? ⟨w.heap.size + 1, 0, none⟩ = some (.int .i64 0) := hk3.cell 0
    have hf1 : w1.cell? ⟨w.heap.size + 1, 1, none⟩ = some (.slice none 0 0) := hk3.cell 1
    have hf2 : w1.cell? ⟨w.heap.size + 1, 2, none⟩ = some (.slice none 0 0) := hk3.cell 2
    have hz0 := hk3.free 0
    have hz1 := hk3.free 1
    have hz2 := hk3.free 2
    go_wp2
    have hne1 : gw ≠ w.heap.size + 1 := by omega
    have hne2 : ga ≠ w.heap.size + 1 := by omega
    exact bodyPost_ret (v := .agg #[.int .i64 (n : Int), .slice (some ⟨gw, 0, none⟩) (n / 64 + 1) (n / 64 + 1), .slice (some ⟨ga, 0, none⟩) (n / 64 + 1) (n / 64 + 1)]) (results_cell_row (P := Try.prog) rfl _ _ (w.heap.size + 1) 73 _ (0, 0) _ rfl (((hk3.set 0 _).set 1 _).set 2 _) Try.underlying73 rfl infoBR) rfl
      ⟨_, _, _, rfl, ⟨gw, ga, W, rfl, rfl, rfl, ((hrw.setOther hne1 _).setOther hne1 _).setOther hne1 _, hbits, ((hra.setOther hne2 _).setOther hne2 _).setOther hne2 _⟩, (((hb0.trans (hb1.mono (by omega))).setCell (by show w.heap.size ≤ w.heap.size + 1; omega) _).setCell (by show w.heap.size ≤ w.heap.size + 1; omega) _).setCell (by show w.heap.size ≤ w.heap.size + 1; omega) _⟩

theorem BR.bit {a b c : Value} {n i : Nat} {f : Nat → Bool} {w : World} (h : BR w a b c n f) (hn : n ≤ 2001) (hi : i < n) :
    Calls Try.prog 100 #[.agg #[a, b, c], .int .i64 (i : Int)] w fun e w' => e = .returned (.bool (f i)) ∧ Below w.heap.size w w' := by
  obtain ⟨gw, ga, W, rfl, rfl, rfl, h4, h5, h6⟩ := h
  have hb := h5 (i / 64) (by omega)
  have he : (W (i / 64)).testBit (i % 64) = f i := by rw [hb.2 _ (Nat.mod_lt _ (by decide)), show 64 * (i / 64) + i % 64 = i from by omega, ct_lt hi]
  rw [← he]
  exact bit_any _ gw _ _ i _ W w (by omega) (by omega) hb.1 h4

theorem BR.ones {a b c : Value} {n p : Nat} {f : Nat → Bool} {w : World} (h : BR w a b c n f) (hn : n ≤ 2001) (hp : p ≤ n) :
    Calls Try.prog 130 #[.agg #[a, b, c], .int .i64 (p : Int)] w fun e w' => e = .returned (.int .i64 ((cntB f p : Nat) : Int)) ∧ Below w.heap.size w w' := by
  obtain ⟨gw, ga, W, rfl, rfl, rfl, h4, h5, h6⟩ := h
  have hb := h5 (p / 64) (by omega)
  have hc1 : ∀ o, (w.alloc o).cell? ⟨gw, p / 64, none⟩ = some (.int .u64 (W (p / 64) : Int)) := fun o => (h4.alloc o).cell (by omega)
  have hc2 : ∀ o, (w.alloc o).cell? ⟨ga, p / 64, none⟩ = some (.int .i64 ((cntB (ct f n) (64 * (p / 64)) : Nat) : Int)) := fun o => (h6.alloc o).cell (by omega)
  have hr64 : p % 64 < 64 := Nat.mod_lt _ (by decide)
  have hp2 : 2 ^ (p % 64) < 2 ^ 64 := Nat.pow_lt_pow_right (by decide) hr64
  have hp1 := Nat.two_pow_pos (p % 64)
  have HB : Hid (IntKind.u64.wrap (IntKind.u64.wrap (2 ^ (p % 64)) - 1) = ((2 ^ (p % 64) - 1 : Nat) : Int)) := by
    show IntKind.u64.wrap (IntKind.u64.wrap (2 ^ (p % 64)) - 1) = _
    have e2 : (2 : Int) ^ (p % 64) = ((2 ^ (p % 64) : Nat) : Int) := by simp
    rw [e2]
    generalize 2 ^ (p % 64) = P at *
    have e3 : IntKind.u64.wrap (P : Int) = (P : Int) := by simp [IntKind.wrap, IntKind.bits, IntKind.signed]; omega
    rw [e3]
    simp [IntKind.wrap, IntKind.bits, IntKind.signed]; omega
  have hand := u64_and_nat (W (p / 64)) (2 ^ (p % 64) - 1) (by simpa using hb.1) (by omega)
  have HC : Hid (cntB (fun i => (W (p / 64) &&& (2 ^ (p % 64) - 1)).testBit i) 64 = cntB (fun j => ct f n (64 * (p / 64) + j)) (p % 64)) := by
    show cntB (fun i => (W (p / 64) &&& (2 ^ (p % 64) - 1)).testBit i) 64 = _
    rw [← cntB_cut (fun j => ct f n (64 * (p / 64) + j)) (Nat.le_of_lt hr64)]
    refine cntB_congr (fun i hi => ?_)
    rw [Nat.testBit_and, Nat.testBit_two_pow_sub_one, hb.2 i hi, Bool.and_comm]
  have hal : W (p / 64) &&& (2 ^ (p % 64) - 1) < 2 ^ 64 := Nat.lt_of_le_of_lt Nat.and_le_left hb.1
  have HS : Hid (cntB (ct f n) (64 * (p / 64)) + cntB (fun j => ct f n (64 * (p / 64) + j)) (p % 64) = cntB f p) := by
    show cntB (ct f n) (64 * (p / 64)) + cntB (fun j => ct f n (64 * (p / 64) + j)) (p % 64) = _
    rw [← cntB_add, show 64 * (p / 64) + p % 64 = p from by omega, cnt_ct f n p hp]
  have hle1 := cntB_le (ct f n) (64 * (p / 64))
  have hle2 := cntB_le (fun j => ct f n (64 * (p / 64) + j)) (p % 64)
  have hon : ∀ w, Calls Try.prog 104 #[.int .u64 ((W (p / 64) &&& (2 ^ (p % 64) - 1) : Nat) : Int)] w fun e w' => e = .returned (.int .i64 ((cntB (fun j => ct f n (64 * (p / 64) + j)) (p % 64) : Nat) : Int)) ∧ w' = w := fun w => by
    rw [← HC.out]; exact onesCount_any _ w hal
  clear HC hp2 hal
  generalize cntB (ct f n) (64 * (p / 64)) = C1 at *
  generalize cntB (fun j => ct f n (64 * (p / 64) + j)) (p % 64) = C2 at *
  generalize 2 ^ (p % 64) - 1 = B2 at *
  generalize W (p / 64) &&& B2 = D at *
  go_enter Try.func130, Try.ntmps130
  go_wp2_with fail
  rw [HB.out]
  go_quiet ((go_at_call 104; exact Calls.quiet_of_same (hon _)))
  go_wp2
  go_ret
  exact ⟨by rw [← HS.out, Int.natCast_add]; rfl, bdrewN ((Below.refl _ _).alloc (Nat.le_refl _) _) _⟩

/-- A number of its bits. -/
def ob (F : Nat → Bool) : Nat → Nat
  | 0 => 0
  | m + 1 => ob F m ||| (if F m then 2 ^ m else 0)
theorem ob_lt (F : Nat → Bool) (m : Nat) : ob F m < 2 ^ m := by
  induction m with
  | zero => exact Nat.one_pos
  | succ m ih =>
    have h1 : 2 ^ m < 2 ^ (m + 1) := Nat.pow_lt_pow_right (by decide) (by omega)
    have h2 : (if F m then 2 ^ m else 0) < 2 ^ (m + 1) := by split <;> omega
    exact Nat.or_lt_two_pow (by omega) h2
theorem ob_bit (F : Nat → Bool) (m i : Nat) : (ob F m).testBit i = (decide (i < m) && F i) := by
  induction m with
  | zero => simp [ob]
  | succ m ih =>
    have h2 : (if F m then 2 ^ m else 0 : Nat).testBit i = (F m && decide (m = i)) := by
      cases F m
      · simp
      · simp [Nat.testBit_two_pow]
    rw [ob, Nat.testBit_or, ih, h2]
    by_cases e : m = i
    · subst e; simp
    · rw [decide_eq_false e, Bool.and_false, Bool.or_false]
      by_cases h1 : i < m
      · rw [decide_eq_true h1, decide_eq_true (show i < m + 1 by omega)]
      · rw [decide_eq_false h1, decide_eq_false (show ¬ i < m + 1 by omega)]
/-- The j-th byte of a row of bits. -/
def pkB (F : Nat → Bool) (j : Nat) : UInt8 := UInt8.ofNat (ob (fun i => F (8 * j + i)) 8)
theorem pkB_toNat (F : Nat → Bool) (j : Nat) : (pkB F j).toNat = ob (fun i => F (8 * j + i)) 8 := by
  have := ob_lt (fun i => F (8 * j + i)) 8
  simp only [pkB, UInt8.toNat_ofNat']
  omega
theorem pkB_bit (F : Nat → Bool) (j i : Nat) (hi : i < 8) : (pkB F j).toNat.testBit i = F (8 * j + i) := by
  rw [pkB_toNat, ob_bit, decide_eq_true hi, Bool.true_and]
/-- A row of bits, packed. -/
def packed (f : Nat → Bool) (n : Nat) : List UInt8 := (List.range ((n + 7) / 8)).map (pkB (ct f n))
theorem packed_length (f : Nat → Bool) (n : Nat) : (packed f n).length = (n + 7) / 8 := by simp [packed]
theorem packed_get (f : Nat → Bool) (n j : Nat) (h : j < (n + 7) / 8) : (packed f n).getD j 0 = pkB (ct f n) j := by
  simp [packed, List.getD_eq_getElem?_getD, h]
theorem packed_congr {f g : Nat → Bool} {n : Nat} (h : ∀ i, i < n → f i = g i) : packed f n = packed g n := by
  have : ct f n = ct g n := by
    funext j
    by_cases h1 : j < n
    · rw [ct_lt h1, ct_lt h1, h j h1]
    · rw [ct_ge h1, ct_ge h1]
  rw [packed, packed, this]
theorem strBit_packed (f : Nat → Bool) (n i : Nat) (h : i < n) : strBit (bs (packed f n)) i = f i := by
  have hs : i / 8 < (bs (packed f n)).size := by rw [bs_size, packed_length]; omega
  rw [strBit_lt _ _ hs, ← tx_getD _ _ hs, tx_bs, packed_get _ _ _ (by omega), pkB_bit _ _ _ (Nat.mod_lt _ (by decide)), show 8 * (i / 8) + i % 8 = i from by omega, ct_lt h]

/-- A byte out of a word. -/
theorem word_byte {W : Nat → Nat} {m : Nat} {F : Nat → Bool} (h : Bits W m F) (j : Nat) (hj : 8 * j / 64 < m) : W (8 * j / 64) / 2 ^ (8 * j % 64) % 256 = (pkB F j).toNat := by
  rw [pkB_toNat]
  apply Nat.eq_of_testBit_eq
  intro i
  rw [ob_bit, show (256 : Nat) = 2 ^ 8 from rfl, Nat.testBit_mod_two_pow, Nat.testBit_div_two_pow]
  by_cases hi : i < 8
  · rw [decide_eq_true hi, Bool.true_and, Bool.true_and, (h _ hj).2 _ (by omega)]
    congr 1; omega
  · rw [decide_eq_false hi, Bool.false_and, Bool.false_and]

set_option maxRecDepth 10000 in
set_option maxHeartbeats 400000 in
theorem BR.pack {a b c : Value} {n : Nat} {f : Nat → Bool} {w : World} (h : BR w a b c n f) (hn : n ≤ 2001) :
    Calls Try.prog 93 #[.agg #[a, b, c]] w fun e w' => e = .returned (.string (bs (packed f n))) ∧ Below w.heap.size w w' := by
  obtain ⟨gw, ga, W, rfl, rfl, rfl, h4, h5, h6⟩ := h
  obtain ⟨i0, hi, hz0, hz1, hz2⟩ := info_parts Try.info5
  have H5 : Hid _ := h5
  clear h5 h6
  have hk0 := Blk.new w 73 #[.int .i64 (n : Int), .slice (some ⟨gw, 0, none⟩) (n / 64 + 1) (n / 64 + 1), .slice (some ⟨ga, 0, none⟩) (n / 64 + 1) (n / 64 + 1)]
  have hb0 : Below w.heap.size w (w.alloc (.cells #[.int .i64 (n : Int), .slice (some ⟨gw, 0, none⟩) (n / 64 + 1) (n / 64 + 1), .slice (some ⟨ga, 0, none⟩) (n / 64 + 1) (n / 64 + 1)] 73)) := (Below.refl _ _).alloc (Nat.le_refl _) _
  have h40 := h4.alloc (.cells #[.int .i64 (n : Int), .slice (some ⟨gw, 0, none⟩) (n / 64 + 1) (n / 64 + 1), .slice (some ⟨ga, 0, none⟩) (n / 64 + 1) (n / 64 + 1)] 73)
  have hlt4 := h4.lt
  clear h4
  go_enter Try.func93, Try.ntmps93
  go_wp2_with fail
  generalize hW : w.alloc (.cells #[.int .i64 (n : Int), .slice (some ⟨gw, 0, none⟩) (n / 64 + 1) (n / 64 + 1), .slice (some ⟨ga, 0, none⟩) (n / 64 + 1) (n / 64 + 1)] 73) = W0 at *
  have hs0 : W0.heap.size = w.heap.size + 1 := by rw [← hW]; simp
  clear hW
  refine (packedSize_any n W0 (by omega)).mono ?_
  rintro e w1 ⟨rfl, rfl⟩
  obtain ⟨m, hm⟩ : ∃ m, m = (n + 7) / 8 := ⟨_, rfl⟩
  rw [← hm]
  have HM : Hid (m = (n + 7) / 8) := hm
  have hmle : 8 * m ≤ n + 7 := by omega
  have hmge : n ≤ 8 * m := by omega
  clear hm
  go_wp2_with (at_make; refine wpList_make_full _ rfl _ _ 60 rfl 0 5 i0 (.int .u8 0) 1 Try.underlying60 hi hz0 hz1 .i64 .i64 _ _ m rfl rfl (by omega) (by omega) (by rw [hz2]; omega) (by unfold maxLen; omega) (by omega) ?_; intro w2 hown hgr)
  have hrow := Row.made hown
  rw [hs0] at hrow
  have hb2 := hb0.grown hgr (by omega) (fun _ h => by cases h)
  have hk2 := hk0.grown hgr (by simp)
  have h42 := h40.grown hgr (by simp)
  have hsz := hgr.size
  clear hown hgr hk0 hb0 h40
  go_loopw [12, 4, 5] (fun p _ _ wr => ∃ k : Nat, k ≤ m ∧ p = .int .i64 (k : Int) ∧ (∃ tf, Row wr (w.heap.size + 1) 5 m (IB tf) ∧ Hid (∀ j, j < k → tf j = pkB (ct f n) j)) ∧ Blk wr w.heap.size 73 #[.int .i64 (n : Int), .slice (some ⟨gw, 0, none⟩) (n / 64 + 1) (n / 64 + 1), .slice (some ⟨ga, 0, none⟩) (n / 64 + 1) (n / 64 + 1)] ∧ Row wr gw 142 (n / 64 + 1) (IU W) ∧ Below w.heap.size w wr) (fun p _ _ _ => m - (intOf p).toNat)
  case atStart => exact ⟨0, Nat.zero_le _, rfl, ⟨fun _ => 0, hrow, fun j hj => by omega⟩, hk2, h42, hb2⟩
  case round =>
    clear hrow hk2 h42 hb2
    obtain ⟨k, hk, rfl, ⟨tf, ht, HT⟩, hk2, h42, hb⟩ := hrel
    by_cases hlt : k < m
    · have hc1 : wr.cell? ⟨w.heap.size, 1, none⟩ = some (.slice (some ⟨gw, 0, none⟩) (n / 64 + 1) (n / 64 + 1)) := hk2.cell 1
      have hc2 := h42.cell (show 8 * k / 64 < n / 64 + 1 by omega)
      rw [IU_at] at hc2
      have hc3 := ht.cell hlt
      have hfz := ht.free k
      have HWB : Hid _ := word_byte H5.out k (by omega)
      have hq1 : (k : Int) * 8 / 64 = ((8 * k / 64 : Nat) : Int) := by omega
      have hq2 : (k : Int) * 8 % 64 = ((8 * k % 64 : Nat) : Int) := by omega
      have HV : Hid ((W (8 * k / 64) : Int) / 2 ^ (8 * k % 64) % 256 = ((pkB (ct f n) k).toNat : Int)) := by
        show (W (8 * k / 64) : Int) / 2 ^ (8 * k % 64) % 256 = _
        rw [← HWB.out]; simp
      clear HWB
      go_wp2
      go_roundw
      case rel =>
        rw [HV.out]
        exact ⟨k + 1, by omega, by go_num, ⟨_, ht.setB k (pkB (ct f n) k), upd_next HT.out rfl⟩, hk2.setOther (by show w.heap.size ≠ w.heap.size + 1; omega) _, h42.setOther (by show gw ≠ w.heap.size + 1; omega) _, hb.setCell (by show w.heap.size ≤ w.heap.size + 1; omega) _⟩
      case measure => simp [intOf]; omega
    · have hkm : k = m := by omega
      subst hkm
      have hcv : ∀ cap, (convert 60 9 (.slice (some ⟨w.heap.size + 1, 0, none⟩) k cap)).run Try.prog wr = .ok (.string (bs (packed f n))) wr := by
        intro cap
        have hl : k = (packed f n).length := by rw [packed_length]; exact HM.out
        rw [hl] at ht ⊢
        refine conv_row ht (fun j hj => ?_)
        rw [HT.out j (by omega), packed_get _ _ _ (by rw [← HM.out]; omega)]
      go_wp2
      go_ret
      exact ⟨rfl, hb⟩
end Go.Proofs.Ytkebgnpifmcmaaa
