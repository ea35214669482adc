import Derived.Test.YtkebgnpifmcmaabGreatGP
import Derived.Test.YtkebgnpifmcmaabGreatGV
import Derived.Test.YtkebgnpifmcmaabGreatGO
namespace Go.Proofs.YtkebgnpifmcmaabGreat
open Go.RowKit

/-- A pattern stands within k wrong bytes at a place. -/
def wrP (t P : List UInt8) (k i : Nat) : Bool := decide (i + P.length ≤ t.length) && decide (df t P i P.length ≤ k)
theorem wrP_zero (t P : List UInt8) (i : Nat) (hi : i ≤ t.length) : wrP t P 0 i = stP t P i := by
  have h := stP_iff t P i hi
  unfold wrP
  cases hs : stP t P i with
  | true =>
    have := h.1 hs
    rw [decide_eq_true this.1, decide_eq_true (Nat.le_of_eq ((df_zero t P i P.length).2 this.2))]; rfl
  | false =>
    by_cases h1 : i + P.length ≤ t.length
    · rw [decide_eq_true h1, Bool.true_and, decide_eq_false_iff_not]
      intro h2
      have := h.2 ⟨h1, (df_zero t P i P.length).1 (by omega)⟩
      rw [this] at hs; cases hs
    · rw [decide_eq_false h1]; rfl

theorem wrongs_k (s p : ByteArray) (i k : Nat) (w : World) (hn : s.size ≤ 2000) (hp : p.size ≤ 30) (hi : i ≤ s.size) :
    Calls Tryz.prog 56 #[.string s, .string p, .int .i64 (i : Int)] w fun e w' => ∃ x : Int, e = .returned (.int .i64 x) ∧ ((0 ≤ x ∧ x ≤ (k : Int)) ↔ wrP (tx s) (tx p) k i = true) ∧ (x = -1 ∨ 0 ≤ x) ∧ x ≤ 30 ∧ ∃ q, w' = w.drewN q := by
  have hw : wrP (tx s) (tx p) k i = true ↔ i + p.size ≤ s.size ∧ df (tx s) (tx p) i p.size ≤ k := by
    unfold wrP
    rw [tx_length, tx_length, Bool.and_eq_true, decide_eq_true_eq, decide_eq_true_eq]
  by_cases h : i + p.size ≤ s.size
  · refine (wrongs_fit s p i w hn hp h).mono ?_
    rintro e w' ⟨rfl, q, rfl⟩
    have hle := df_le (tx s) (tx p) i p.size
    refine ⟨_, rfl, ?_, .inr (by omega), by omega, q, rfl⟩
    rw [hw]
    omega
  · refine (wrongs_no s p i w hn hp hi (by omega)).mono ?_
    rintro e w' ⟨rfl, rfl⟩
    refine ⟨_, rfl, ?_, .inl rfl, by omega, 0, rfl⟩
    rw [hw]
    omega

theorem refWrong_badP (s p : ByteArray) (kk : Int) (w : World) (hp : p.size ≤ maxLen) (h : ¬ (0 < p.size ∧ p.size ≤ 30)) :
    Calls Tryz.prog 31 #[.string s, .string p, .int .i64 kk] w fun e w' => e = .returned (.tuple #[.slice none 0 0, .int .i64 (patE p)]) ∧ w' = w := by
  have hpe : patE p = 6 ∨ patE p = 7 := by
    unfold patE
    by_cases h0 : p.size = 0
    · rw [if_pos h0]; exact .inl rfl
    · rw [if_neg h0, if_pos (by omega)]; exact .inr rfl
  have HP : Hid _ := patterned_any p w hp
  clear h
  generalize patE p = E at *
  rcases hpe with rfl | rfl
  all_goals
    go_enter Tryz.func31, Tryz.ntmps31
    go_wp2_with fail
    refine Calls.mono HP.out ?_
    rintro en w1 ⟨rfl, rfl⟩
    go_wp2
    go_ret2
    exact ⟨rfl, rfl⟩

theorem refWrong_badK (s p : ByteArray) (kk : Int) (w : World) (h0 : 0 < p.size) (h1 : p.size ≤ 30) (hk : kk < 0 ∨ 4 < kk) :
    Calls Tryz.prog 31 #[.string s, .string p, .int .i64 kk] w fun e w' => e = .returned (.tuple #[.slice none 0 0, .int .i64 8]) ∧ w' = w := by
  have HP : Hid (∀ w, Calls Tryz.prog 55 #[.string p] w fun e w' => e = .returned (.int .i64 0) ∧ w' = w) := fun w => by
    have := patterned_any p w (by unfold maxLen; omega)
    rw [show patE p = 0 from by unfold patE; rw [if_neg (by omega), if_neg (by omega)]] at this
    exact this
  by_cases hk0 : kk < 0
  · have d1 : decide (kk < 0) = true := by simpa using hk0
    go_enter Tryz.func31, Tryz.ntmps31
    go_wp2_with fail
    refine Calls.mono (HP.out _) ?_
    rintro en w1 ⟨rfl, rfl⟩
    go_wp2
    go_ret2
    exact ⟨rfl, rfl⟩
  · have d1 : decide (kk < 0) = false := by simpa using hk0
    have d2 : decide (4 < kk) = true := by simp only [decide_eq_true_eq]; omega
    go_enter Tryz.func31, Tryz.ntmps31
    go_wp2_with fail
    refine Calls.mono (HP.out _) ?_
    rintro en w1 ⟨rfl, rfl⟩
    go_wp2
    go_ret2
    exact ⟨rfl, rfl⟩

set_option maxRecDepth 10000 in
set_option maxHeartbeats 1000000 in
theorem refWrong_k (s p : ByteArray) (kk : Nat) (w : World) (hn : s.size ≤ 2000) (h0 : 0 < p.size) (h1 : p.size ≤ 30) (hkk : kk ≤ 4) :
    Calls Tryz.prog 31 #[.string s, .string p, .int .i64 (kk : Int)] w fun e w' => ∃ v, e = .returned (.tuple #[v, .int .i64 0]) ∧ OwnL w' w.heap.size v (filt (wrP (tx s) (tx p) kk) (s.size + 1)) ∧ Below w.heap.size w w' := by
  obtain ⟨i0, hi, hz0, hz1, hz2⟩ := info_parts Tryz.info3
  have HP : Hid (∀ w, Calls Tryz.prog 55 #[.string p] w fun e w' => e = .returned (.int .i64 0) ∧ w' = w) := fun w => by
    have := patterned_any p w (by unfold maxLen; omega)
    rw [show patE p = 0 from by unfold patE; rw [if_neg (by omega), if_neg (by omega)]] at this
    exact this
  have HWR : Hid (∀ (i : Nat) w, i ≤ s.size → Calls Tryz.prog 56 #[.string s, .string p, .int .i64 (i : Int)] w fun e w' => ∃ x : Int, e = .returned (.int .i64 x) ∧ ((0 ≤ x ∧ x ≤ (kk : Int)) ↔ wrP (tx s) (tx p) kk i = true) ∧ (x = -1 ∨ 0 ≤ x) ∧ x ≤ 30 ∧ ∃ q, w' = w.drewN q) := fun i w h => wrongs_k s p i kk w hn h1 h
  generalize hB : wrP (tx s) (tx p) kk = B at *
  clear hB
  have dk : ¬ (4 : Int) < (kk : Int) := by omega
  go_enter Tryz.func31, Tryz.ntmps31
  go_wp2_with fail
  refine Calls.mono (HP.out _) ?_
  clear HP
  rintro en w1 ⟨rfl, rfl⟩
  go_wp2_with fail
  go_loopw [9, 10, 11] (fun v i _ wr => ∃ k : Nat, k ≤ s.size + 1 ∧ i = .int .i64 (k : Int) ∧ wr.ownsRow w1.heap.size 3 1 v (filt B k).length (NL (filt B k)) ∧ Below w1.heap.size w1 wr) (fun _ i _ _ => s.size + 1 - (intOf i).toNat)
  case atStart => exact ⟨0, Nat.zero_le _, rfl, World.ownsRow_nil _ _ _ _, Below.refl _ _⟩
  case round =>
    obtain ⟨k, hk, rfl, hown, hb⟩ := hrel
    by_cases hlt : k < s.size + 1
    · have d1 : (k : Int) ≤ (s.size : Int) := by omega
      have HC : Hid _ := HWR.out k wr (by omega)
      clear HWR
      have hfl : (filt B k).length ≤ k := by rw [filt_length]; exact cntB_le _ _
      go_wp2_with fail
      refine Calls.mono HC.out ?_
      clear HC
      rintro en w2 ⟨x, rfl, hx, hx1, hx2, q, rfl⟩
      have hownq : (wr.drewN q).ownsRow w1.heap.size 3 1 u9 (filt B k).length (NL (filt B k)) := hown
      have hbq : Below w1.heap.size w1 (wr.drewN q) := below_drewN hb q
      clear hown hb
      generalize wr.drewN q = Wq at *
      cases hBk : B k with
      | false =>
        have HN : Hid (filt B (k + 1) = filt B k) := filt_no hBk
        rw [hBk] at hx
        have hne : ¬ (0 ≤ x ∧ x ≤ (kk : Int)) := fun e => by have := hx.1 e; cases this
        clear hBk hx
        rcases hx1 with rfl | hx1
        · go_wp2
          go_roundw
          case rel => exact ⟨k + 1, by omega, by go_num, by rw [HN.out]; exact hownq, hbq⟩
          case measure => simp [intOf]; omega
        · have d2 : decide (0 ≤ x) = true := by simpa using hx1
          have d3 : decide (x ≤ (kk : Int)) = false := by simp only [decide_eq_false_iff_not]; omega
          go_wp2
          go_roundw
          case rel => exact ⟨k + 1, by omega, by go_num, by rw [HN.out]; exact hownq, hbq⟩
          case measure => simp [intOf]; omega
      | true =>
        have HN : Hid (filt B (k + 1) = filt B k ++ [k]) := filt_yes hBk
        rw [hBk] at hx
        obtain ⟨hy1, hy2⟩ := hx.2 rfl
        have d2 : decide (0 ≤ x) = true := by simpa using hy1
        have d3 : decide (x ≤ (kk : Int)) = true := by simpa using hy2
        clear hBk hx hx1 hx2
        have hsz := hbq.size
        go_wp2_with (at_builtin; refine wpList_append_own _ rfl (.tmp 40) (.tmp 42) 32 rfl w1.heap.size 3 i0 (.int .i64 0) 1 8 Tryz.underlying32 hi hz0 hz1 hz2 rfl (by decide) u9 (filt B k).length _ rfl (hownq.alloc _) ⟨Wq.heap.size, 0, none⟩ 1 1 [.int .i64 (k : Int)] rfl rfl (cell_one_new _ _ _) (by simp; rfl) (by unfold maxLen; omega) (by omega) (by simp; omega) ?_; intro v' w2 hown1 hgr1 _)
        have hb1 : Below w1.heap.size w1 w2 := (hbq.alloc hsz _).grown hgr1 (by simp; omega) (fun k hk => (hownq.lt k hk).1)
        rw [NL_snoc] at hown1
        have hown1' : w2.ownsRow w1.heap.size 3 1 v' (filt B (k + 1)).length (NL (filt B (k + 1))) := by
          rw [HN.out, List.length_append]; exact hown1
        go_roundw
        case rel => exact ⟨k + 1, by omega, by go_num, hown1', hb1⟩
        case measure => simp [intOf]; omega
    · have hkn : k = s.size + 1 := by omega
      subst hkn
      obtain ⟨ao, cp, rfl, _⟩ := OwnL.shape (l := filt B (s.size + 1)) hown
      go_wp2
      go_ret2
      exact ⟨_, rfl, hown, hb⟩
end Go.Proofs.YtkebgnpifmcmaabGreat

/- Edits and wrong bytes, on. Plain mathematics. -/
namespace Go.Proofs.YtkebgnpifmcmaabGreat

theorem Ed.symm {x y : List UInt8} {n : Nat} (h : Ed x y n) : Ed y x n := by
  induction h using Ed.ind with
  | nil => exact .nil
  | keep a _ ih => exact .keep a ih
  | sub a b _ ih => exact .sub b a ih
  | del a _ ih => exact .ins a ih
  | ins b _ ih => exact .del b ih
/-- Edits behind edits. -/
theorem Ed.trans {x y : List UInt8} {n : Nat} (h : Ed x y n) : ∀ {z : List UInt8} {m : Nat}, Ed y z m → ∃ k, k ≤ n + m ∧ Ed x z k := by
  induction h using Ed.ind with
  | nil => intro z m h'; exact ⟨m, by omega, h'⟩
  | del a _ ih =>
    intro z m h'
    obtain ⟨k, hk, he⟩ := ih h'
    exact ⟨k + 1, by omega, .del a he⟩
  | @keep x y n a h ih =>
    intro z m h'
    generalize hy : a :: y = w at h'
    induction h' using Ed.ind with
    | nil => cases hy
    | @keep x' z m c h2 _ =>
      cases hy
      obtain ⟨k, hk, he⟩ := ih h2
      exact ⟨k, by omega, .keep a he⟩
    | @sub x' z m c d h2 _ =>
      cases hy
      obtain ⟨k, hk, he⟩ := ih h2
      exact ⟨k + 1, by omega, .sub a d he⟩
    | @del x' z m c h2 _ =>
      cases hy
      obtain ⟨k, hk, he⟩ := ih h2
      exact ⟨k + 1, by omega, .del a he⟩
    | @ins x' z m d h2 ih2 =>
      obtain ⟨k, hk, he⟩ := ih2 hy
      exact ⟨k + 1, by omega, .ins d he⟩
  | @sub x y n a b h ih =>
    intro z m h'
    generalize hy : b :: y = w at h'
    induction h' using Ed.ind with
    | nil => cases hy
    | @keep x' z m c h2 _ =>
      cases hy
      obtain ⟨k, hk, he⟩ := ih h2
      exact ⟨k + 1, by omega, .sub a b he⟩
    | @sub x' z m c d h2 _ =>
      cases hy
      obtain ⟨k, hk, he⟩ := ih h2
      exact ⟨k + 1, by omega, .sub a d he⟩
    | @del x' z m c h2 _ =>
      cases hy
      obtain ⟨k, hk, he⟩ := ih h2
      exact ⟨k + 1, by omega, .del a he⟩
    | @ins x' z m d h2 ih2 =>
      obtain ⟨k, hk, he⟩ := ih2 hy
      exact ⟨k + 1, by omega, .ins d he⟩
  | @ins x y n b h ih =>
    intro z m h'
    generalize hy : b :: y = w at h'
    induction h' using Ed.ind with
    | nil => cases hy
    | @keep x' z m c h2 _ =>
      cases hy
      obtain ⟨k, hk, he⟩ := ih h2
      exact ⟨k + 1, by omega, .ins b he⟩
    | @sub x' z m c d h2 _ =>
      cases hy
      obtain ⟨k, hk, he⟩ := ih h2
      exact ⟨k + 1, by omega, .ins d he⟩
    | @del x' z m c h2 _ =>
      cases hy
      obtain ⟨k, hk, he⟩ := ih h2
      exact ⟨k, by omega, he⟩
    | @ins x' z m d h2 ih2 =>
      obtain ⟨k, hk, he⟩ := ih2 hy
      exact ⟨k + 1, by omega, .ins d he⟩
theorem lev_symm (x y : List UInt8) : lev x y = lev y x := Nat.le_antisymm (lev_le (lev_ed y x).symm) (lev_le (lev_ed x y).symm)
theorem lev_trans (x y z : List UInt8) : lev x z ≤ lev x y + lev y z := by
  obtain ⟨k, hk, he⟩ := (lev_ed x y).trans (lev_ed y z)
  exact Nat.le_trans (lev_le he) hk
/-- One edit. -/
theorem lev_put (u v : List UInt8) (a b : UInt8) : lev (u ++ a :: v) (u ++ b :: v) ≤ 1 := by
  have := (Ed.refl u).append (.sub a b (Ed.refl v))
  exact lev_le (by simpa using this)
theorem lev_ins (u v : List UInt8) (b : UInt8) : lev (u ++ v) (u ++ b :: v) ≤ 1 := by
  have := (Ed.refl u).append (.ins b (Ed.refl v))
  exact lev_le (by simpa using this)
theorem lev_del (u v : List UInt8) (a : UInt8) : lev (u ++ a :: v) (u ++ v) ≤ 1 := by
  have := (Ed.refl u).append (.del a (Ed.refl v))
  exact lev_le (by simpa using this)

/-- Wrong bytes, counted. -/
theorem df_cntB (t P : List UInt8) (i k : Nat) : df t P i k = cntB (fun j => !decide (bN P j = bN t (i + j))) k := by
  induction k with
  | zero => rfl
  | succ k ih =>
    simp only [df, cntB, ih]
    by_cases h : bN P k = bN t (i + k)
    · rw [if_pos h, decide_eq_true h]; rfl
    · rw [if_neg h, decide_eq_false h]; rfl
/-- Of some pieces with fewer wrong bytes than pieces, one has none. -/
theorem pigeon (B : Nat → Bool) (c : Nat → Nat) : ∀ (m : Nat), (∀ j, j < m → c j ≤ c (j + 1)) → cntB B (c m) - cntB B (c 0) < m → ∃ j, j < m ∧ ∀ x, c j ≤ x → x < c (j + 1) → B x = false := by
  have none : ∀ a b, a ≤ b → cntB B b = cntB B a → ∀ x, a ≤ x → x < b → B x = false := by
    intro a b hab he x h1 h2
    cases hx : B x with
    | false => rfl
    | true =>
      have e1 := cntB_mono B (show x + 1 ≤ b by omega)
      have e2 := cntB_mono B h1
      have e3 : cntB B (x + 1) = cntB B x + 1 := by simp only [cntB]; rw [hx]; rfl
      omega
  intro m
  induction m with
  | zero => intro _ h; omega
  | succ m ih =>
    intro hc h
    have hm := hc m (by omega)
    have e1 := cntB_mono B hm
    have h0 : ∀ j, j ≤ m → c 0 ≤ c j := by
      intro j
      induction j with
      | zero => intro _; exact Nat.le_refl _
      | succ j ihj => intro hj; exact Nat.le_trans (ihj (by omega)) (hc j (by omega))
    have e2 := cntB_mono B (h0 m (Nat.le_refl _))
    by_cases e : cntB B (c (m + 1)) = cntB B (c m)
    · exact ⟨m, by omega, none _ _ hm e⟩
    · obtain ⟨j, hj, hh⟩ := ih (fun j hj => hc j (by omega)) (by omega)
      exact ⟨j, by omega, hh⟩
theorem nearE_mono {t P : List UInt8} {k k' i : Nat} (h : nearE t P k i) (hk : k ≤ k') : nearE t P k' i := by
  obtain ⟨j, h1, h2, h3⟩ := h
  exact ⟨j, h1, h2, Nat.le_trans h3 hk⟩
theorem wrP_mono {t P : List UInt8} {k k' i : Nat} (h : wrP t P k i = true) (hk : k ≤ k') : wrP t P k' i = true := by
  unfold wrP at h ⊢
  rw [Bool.and_eq_true, decide_eq_true_eq, decide_eq_true_eq] at h ⊢
  exact ⟨h.1, Nat.le_trans h.2 hk⟩
/-- So many wrong bytes are so many edits. -/
theorem ed_df (t P : List UInt8) (i : Nat) : ∀ m, m ≤ P.length → i + m ≤ t.length → ∃ n, n ≤ df t P i m ∧ Ed (P.take m) ((t.take (i + m)).drop i) n := by
  intro m
  induction m with
  | zero => intro _ _; exact ⟨0, Nat.zero_le _, by rw [List.take_zero, Nat.add_zero, List.drop_of_length_le (by rw [List.length_take]; omega)]; exact .nil⟩
  | succ m ih =>
    intro h1 h2
    obtain ⟨n, hn, he⟩ := ih (by omega) (by omega)
    have e1 : P.take (m + 1) = P.take m ++ [P.getD m 0] := by
      rw [List.take_succ_eq_append_getElem (show m < P.length by omega), List.getD_eq_getElem?_getD, List.getElem?_eq_getElem (show m < P.length by omega)]; rfl
    have e2 : (t.take (i + (m + 1))).drop i = (t.take (i + m)).drop i ++ [t.getD (i + m) 0] := by
      rw [show i + (m + 1) = i + m + 1 from by omega, List.take_succ_eq_append_getElem (show i + m < t.length by omega), List.drop_append_of_le_length (by rw [List.length_take]; omega), List.getD_eq_getElem?_getD, List.getElem?_eq_getElem (show i + m < t.length by omega)]; rfl
    rw [e1, e2]
    simp only [df]
    by_cases h : bN P m = bN t (i + m)
    · have hb : P.getD m 0 = t.getD (i + m) 0 := (u8_eq_iff _ _).2 h
      rw [if_pos h, hb]
      exact ⟨n, by omega, by have := he.append (.keep (t.getD (i + m) 0) .nil); simpa using this⟩
    · rw [if_neg h]
      exact ⟨n + 1, by omega, he.append (.sub (P.getD m 0) (t.getD (i + m) 0) .nil)⟩
theorem wrP_near {t P : List UInt8} {k i : Nat} (h : wrP t P k i = true) : nearE t P k i := by
  unfold wrP at h
  rw [Bool.and_eq_true, decide_eq_true_eq, decide_eq_true_eq] at h
  obtain ⟨n, hn, he⟩ := ed_df t P i P.length (Nat.le_refl _) h.1
  rw [List.take_length] at he
  exact ⟨i + P.length, by omega, h.1, Nat.le_trans (lev_le he) (by omega)⟩
end Go.Proofs.YtkebgnpifmcmaabGreat

/- What the search finds. Plain mathematics. -/
namespace Go.Proofs.YtkebgnpifmcmaabGreat

theorem stP_pre (t v : List UInt8) (x : Nat) : stP t v x = true ↔ v <+: t.drop x := List.isPrefixOf_iff_prefix
theorem stP_sub {t v u : List UInt8} {x : Nat} (h : stP t (v ++ u) x = true) : stP t v x = true := by
  rw [stP_pre] at h ⊢
  exact (List.prefix_append v u).trans h
theorem stP_cut {t v : List UInt8} {x : Nat} (hx : x ≤ t.length) (h : stP t v x = true) : v = (t.take (x + v.length)).drop x ∧ x + v.length ≤ t.length := by
  rw [stP_pre] at h
  have hl := h.length_le
  rw [List.length_drop] at hl
  refine ⟨?_, by omega⟩
  rw [List.drop_take, Nat.add_sub_cancel_left]
  exact List.prefix_iff_eq_take.1 h
theorem stP_of_cut (t : List UInt8) (x m : Nat) : stP t ((t.take (x + m)).drop x) x = true := by
  rw [stP_pre, List.drop_take, Nat.add_sub_cancel_left]
  exact List.take_prefix _ _
theorem stP_next {t v : List UInt8} {c d : UInt8} {x : Nat} (h1 : stP t (v ++ [c]) x = true) (h2 : stP t (v ++ [d]) x = true) : c = d := by
  rw [stP_pre] at h1 h2
  have := List.prefix_of_prefix_length_le h1 h2 (by simp)
  have := List.IsPrefix.eq_of_length this (by simp)
  simpa using this
theorem NS_pos {t v : List UInt8} {x : Nat} (hx : x ≤ t.length) (h : stP t v x = true) : 0 < NS t v := by
  rw [NS]
  have h1 : cntB (stP t v) (x + 1) ≤ cntB (stP t v) (t.length + 1) := cntB_mono _ (by omega)
  rw [cntB, h] at h1
  simp at h1
  omega
theorem NS_long {t v : List UInt8} (h : 0 < NS t v) : v.length ≤ t.length := by
  by_cases hl : v.length ≤ t.length
  · exact hl
  · have : NS t v = 0 := by
      rw [NS]
      refine cntB_false (fun i hi => ?_)
      cases hs : stP t v i with
      | false => rfl
      | true =>
        rw [stP_pre] at hs
        have := hs.length_le
        rw [List.length_drop] at this
        omega
    omega

/-- At this place stands the piece, and it, or a longer one, comes of the pattern. -/
def Hit (t P : List UInt8) (pi ta re : Bool) (k : Nat) (v : List UInt8) (x : Nat) : Prop :=
  x ≤ t.length ∧ ∃ u, stP t (v ++ u) x = true ∧ rb P pi ta re (v ++ u) k P.length = true
theorem hit_take {t P : List UInt8} {pi ta re : Bool} {k : Nat} {v : List UInt8} (h : rb P pi ta re v k P.length = true) (x : Nat) : Hit t P pi ta re k v x ↔ x ≤ t.length ∧ stP t v x = true := by
  constructor
  · rintro ⟨hx, u, h1, _⟩
    exact ⟨hx, stP_sub h1⟩
  · rintro ⟨hx, h1⟩
    exact ⟨hx, [], by rw [List.append_nil]; exact h1, by rw [List.append_nil]; exact h⟩
theorem hit_split {t P : List UInt8} {pi ta re : Bool} {k : Nat} {v : List UInt8} (h : rb P pi ta re v k P.length = false) (x : Nat) : Hit t P pi ta re k v x ↔ ∃ c, Hit t P pi ta re k (v ++ [c]) x := by
  constructor
  · rintro ⟨hx, u, h1, h2⟩
    cases u with
    | nil => rw [List.append_nil, h] at h2; cases h2
    | cons c u => exact ⟨c, hx, u, by simpa using h1, by simpa using h2⟩
  · rintro ⟨c, hx, u, h1, h2⟩
    exact ⟨hx, c :: u, by simpa using h1, by simpa using h2⟩
theorem hit_none {t P : List UInt8} {pi ta re : Bool} {k : Nat} {v : List UInt8} (h : ∀ i, i ≤ P.length → rb P pi ta re v k i = false) (x : Nat) : ¬ Hit t P pi ta re k v x := by
  rintro ⟨_, u, _, h2⟩
  obtain ⟨i, hi, hh⟩ := rb_backs P pi ta re v u k P.length h2
  rw [h i hi] at hh
  cases hh
theorem hit_next {t P : List UInt8} {pi ta re : Bool} {k : Nat} {v : List UInt8} {c d : UInt8} {x : Nat} (h1 : Hit t P pi ta re k (v ++ [c]) x) (h2 : Hit t P pi ta re k (v ++ [d]) x) : c = d := by
  obtain ⟨_, _, a, _⟩ := h1
  obtain ⟨_, _, b, _⟩ := h2
  exact stP_next (stP_sub a) (stP_sub b)
theorem hit_pos {t P : List UInt8} {pi ta re : Bool} {k : Nat} {v : List UInt8} {x : Nat} (h : Hit t P pi ta re k v x) : 0 < NS t v := by
  obtain ⟨hx, u, h1, _⟩ := h
  exact NS_pos hx (stP_sub h1)

/-- The places that are found of a piece: each once. -/
def Found (t P : List UInt8) (pi ta re : Bool) (k : Nat) (v : List UInt8) (L : List Nat) : Prop := L.Nodup ∧ ∀ x, x ∈ L ↔ Hit t P pi ta re k v x
/-- And of those of its followers that have been looked at. -/
def FoundB (t P : List UInt8) (pi ta re : Bool) (k : Nat) (v : List UInt8) (fl : List UInt8) (L : List Nat) : Prop := L.Nodup ∧ ∀ x, x ∈ L ↔ ∃ c, c ∈ fl ∧ Hit t P pi ta re k (v ++ [c]) x
theorem FoundB.start (t P : List UInt8) (pi ta re : Bool) (k : Nat) (v : List UInt8) : FoundB t P pi ta re k v [] [] := ⟨List.nodup_nil, fun x => by simp⟩
theorem FoundB.step {t P : List UInt8} {pi ta re : Bool} {k : Nat} {v fl : List UInt8} {c : UInt8} {L L1 : List Nat} (h : FoundB t P pi ta re k v fl L) (hc : c ∉ fl) (h1 : Found t P pi ta re k (v ++ [c]) L1) : FoundB t P pi ta re k v (fl ++ [c]) (L ++ L1) := by
  refine ⟨?_, fun x => ?_⟩
  · rw [List.nodup_append]
    refine ⟨h.1, h1.1, ?_⟩
    rintro a ha b hb rfl
    obtain ⟨d, hd, hh⟩ := (h.2 a).1 ha
    have := hit_next hh ((h1.2 a).1 hb)
    exact hc (this ▸ hd)
  · rw [List.mem_append, h.2, h1.2]
    simp only [List.mem_append, List.mem_singleton]
    constructor
    · rintro (⟨d, hd, hh⟩ | hh)
      · exact ⟨d, .inl hd, hh⟩
      · exact ⟨c, .inr rfl, hh⟩
    · rintro ⟨d, hd | rfl, hh⟩
      · exact .inl ⟨d, hd, hh⟩
      · exact .inr hh
theorem FoundB.skip {t P : List UInt8} {pi ta re : Bool} {k : Nat} {v fl : List UInt8} {c : UInt8} {L : List Nat} (h : FoundB t P pi ta re k v fl L) (h1 : ∀ i, i ≤ P.length → rb P pi ta re (v ++ [c]) k i = false) : FoundB t P pi ta re k v (fl ++ [c]) L := by
  refine ⟨h.1, fun x => ?_⟩
  rw [h.2]
  simp only [List.mem_append, List.mem_singleton]
  constructor
  · rintro ⟨d, hd, hh⟩; exact ⟨d, .inl hd, hh⟩
  · rintro ⟨d, hd | rfl, hh⟩
    · exact ⟨d, hd, hh⟩
    · exact absurd hh (hit_none h1 x)
theorem FoundB.done {t P : List UInt8} {pi ta re : Bool} {k : Nat} {v fl : List UInt8} {L : List Nat} (h : FoundB t P pi ta re k v fl L) (h1 : rb P pi ta re v k P.length = false) (hf : ∀ c, 0 < NS t (v ++ [c]) → c ∈ fl) : Found t P pi ta re k v L := by
  refine ⟨h.1, fun x => ?_⟩
  rw [h.2, hit_split h1]
  constructor
  · rintro ⟨c, _, hh⟩; exact ⟨c, hh⟩
  · rintro ⟨c, hh⟩; exact ⟨c, hf c (hit_pos hh), hh⟩
/-- Sorted, they are the places at which the pattern stands so. -/
theorem sort_filt {L : List Nat} {B : Nat → Bool} {N : Nat} (hn : L.Nodup) (hm : ∀ x, x ∈ L ↔ x < N ∧ B x = true) : (asI L).mergeSort (fun x y => decide (x ≤ y)) = asI (filt B N) := by
  have hperm : L.Perm (filt B N) := by
    refine (List.perm_ext_iff_of_nodup hn ?_).2 (fun x => ?_)
    · exact (filt_rising _ _).imp (fun h => Nat.ne_of_lt h)
    · rw [hm, mem_filt]
  have hp2 : (asI L).Perm (asI (filt B N)) := hperm.map _
  refine List.Perm.eq_of_pairwise (le := fun x y : Int => decide (x ≤ y) = true) (fun a b _ _ h1 h2 => ?_) ?_ ?_ ((List.mergeSort_perm _ _).trans hp2)
  · simp only [decide_eq_true_eq] at h1 h2; omega
  · exact List.pairwise_mergeSort (fun a b c h1 h2 => by simp only [decide_eq_true_eq] at h1 h2 ⊢; omega) (fun a b => by simp only [Bool.or_eq_true, decide_eq_true_eq]; omega) _
  · unfold asI
    rw [List.pairwise_map]
    exact (filt_rising _ _).imp (fun h => by simp only [decide_eq_true_eq]; omega)

/-- A pattern stands within k edits at a place: reckoned. -/
def neB (t P : List UInt8) (k i : Nat) : Bool := (List.range (t.length + 1)).any (fun j => decide (i ≤ j) && decide (lev P ((t.take j).drop i) ≤ k))
theorem neB_iff (t P : List UInt8) (k i : Nat) : neB t P k i = true ↔ nearE t P k i := by
  simp only [neB, List.any_eq_true, List.mem_range, Bool.and_eq_true, decide_eq_true_eq, nearE]
  constructor
  · rintro ⟨j, h1, h2, h3⟩; exact ⟨j, h2, by omega, h3⟩
  · rintro ⟨j, h1, h2, h3⟩; exact ⟨j, by omega, h1, h3⟩
theorem hit_edits (t P : List UInt8) (k x : Nat) : Hit t P true true true k [] x ↔ x < t.length + 1 ∧ neB t P k x = true := by
  rw [neB_iff]
  constructor
  · rintro ⟨hx, u, h1, h2⟩
    rw [List.nil_append] at h1 h2
    rw [rb_lev P u k P.length (Nat.le_refl _), List.take_length] at h2
    obtain ⟨h3, h4⟩ := stP_cut hx h1
    exact ⟨by omega, x + u.length, by omega, h4, by rw [← h3]; exact h2⟩
  · rintro ⟨hx, j, h1, h2, h3⟩
    refine ⟨by omega, (t.take j).drop x, ?_, ?_⟩
    · rw [List.nil_append, show j = x + (j - x) from by omega]; exact stP_of_cut t x (j - x)
    · rw [List.nil_append, rb_lev P _ k P.length (Nat.le_refl _), List.take_length]; exact h3
theorem hd_df (t P : List UInt8) (x : Nat) : ∀ m, m ≤ P.length → x + m ≤ t.length → hd (P.take m) ((t.take (x + m)).drop x) = df t P x m := by
  intro m
  induction m with
  | zero => intro _ _; simp [hd, df]
  | succ m ih =>
    intro h1 h2
    have e1 : P.take (m + 1) = P.take m ++ [P.getD m 0] := by
      rw [List.take_succ_eq_append_getElem (by omega), List.getD_eq_getElem?_getD, List.getElem?_eq_getElem (by omega)]; rfl
    have e2 : (t.take (x + (m + 1))).drop x = (t.take (x + m)).drop x ++ [t.getD (x + m) 0] := by
      rw [← Nat.add_assoc, List.take_succ_eq_append_getElem (by omega), List.drop_append_of_le_length (by rw [List.length_take]; omega), List.getD_eq_getElem?_getD, List.getElem?_eq_getElem (by omega)]; rfl
    rw [e1, e2, hd_snoc _ _ _ _ (by rw [List.length_take, List.length_drop, List.length_take]; omega), ih (by omega) (by omega), df]
    congr 1
    by_cases e : P.getD m 0 = t.getD (x + m) 0
    · rw [if_pos e, if_pos (by rw [bN, bN, e])]
    · rw [if_neg e, if_neg (show ¬ bN P m = bN t (x + m) from fun h => e (UInt8.toNat_inj.1 h))]
theorem hit_wrong (t P : List UInt8) (k x : Nat) : Hit t P false false true k [] x ↔ x < t.length + 1 ∧ wrP t P k x = true := by
  have hw : wrP t P k x = true ↔ x + P.length ≤ t.length ∧ df t P x P.length ≤ k := by simp [wrP]
  rw [hw]
  constructor
  · rintro ⟨hx, u, h1, h2⟩
    rw [List.nil_append] at h1 h2
    rw [rb_hd P u k P.length (Nat.le_refl _), List.take_length] at h2
    obtain ⟨h3, h4⟩ := stP_cut hx h1
    rw [h2.1] at h3 h4
    have h5 := hd_df t P x P.length (Nat.le_refl _) h4
    rw [List.take_length, ← h3] at h5
    exact ⟨by omega, h4, by omega⟩
  · rintro ⟨hx, h4, h5⟩
    refine ⟨by omega, (t.take (x + P.length)).drop x, ?_, ?_⟩
    · rw [List.nil_append]; exact stP_of_cut t x P.length
    · rw [List.nil_append, rb_hd P _ k P.length (Nat.le_refl _), List.take_length]
      have h6 := hd_df t P x P.length (Nat.le_refl _) h4
      rw [List.take_length] at h6
      exact ⟨by rw [List.length_drop, List.length_take]; omega, by omega⟩
/-- The least number of edits, of the bytes from a place on to any of the next ones. -/
def bst (t P : List UInt8) (i : Nat) : Nat → Nat
  | 0 => P.length
  | d + 1 => min (bst t P i d) (lev P ((t.take (i + d + 1)).drop i))
theorem bst_le (t P : List UInt8) (i d : Nat) : bst t P i d ≤ P.length := by
  induction d with
  | zero => exact Nat.le_refl _
  | succ d ih => exact Nat.le_trans (Nat.min_le_left _ _) ih
theorem bst_iff (t P : List UInt8) (i d k : Nat) : bst t P i d ≤ k ↔ ∃ j, j ≤ d ∧ lev P ((t.take (i + j)).drop i) ≤ k := by
  induction d with
  | zero =>
    have h0 : lev P ((t.take (i + 0)).drop i) = P.length := by
      rw [Nat.add_zero, List.drop_take, Nat.sub_self, List.take_zero, lev_nil_right]
    constructor
    · intro h; exact ⟨0, Nat.le_refl _, by rw [h0]; exact h⟩
    · rintro ⟨j, hj, h⟩
      obtain rfl : j = 0 := by omega
      rw [h0] at h; exact h
  | succ d ih =>
    rw [bst]
    constructor
    · intro h
      by_cases h1 : bst t P i d ≤ k
      · obtain ⟨j, hj, hh⟩ := ih.1 h1
        exact ⟨j, by omega, hh⟩
      · exact ⟨d + 1, Nat.le_refl _, by rw [← Nat.add_assoc]; omega⟩
    · rintro ⟨j, hj, hh⟩
      by_cases h1 : j = d + 1
      · subst h1; rw [← Nat.add_assoc] at hh; omega
      · have := ih.2 ⟨j, by omega, hh⟩; omega
theorem bst_near (t P : List UInt8) (i d k : Nat) (hk : k < P.length) (h1 : i + d ≤ t.length) (h2 : i + d = t.length ∨ d = 2 * P.length) : decide (bst t P i d ≤ k) = neB t P k i := by
  rw [Bool.eq_iff_iff, decide_eq_true_eq, neB_iff, bst_iff]
  constructor
  · rintro ⟨j, hj, hh⟩; exact ⟨i + j, by omega, by omega, hh⟩
  · rintro ⟨j, hj1, hj2, hh⟩
    have := near_len hj2 hh
    exact ⟨j - i, by omega, by rw [show i + (j - i) = j from by omega]; exact hh⟩
end Go.Proofs.YtkebgnpifmcmaabGreat

/- The search's list of places. Plain mathematics. -/
namespace Go.Proofs.YtkebgnpifmcmaabGreat

theorem nodup_len {L : List Nat} {n : Nat} (h : L.Nodup) (hx : ∀ x ∈ L, x ≤ n) : L.length ≤ n + 1 := by
  have hperm : L.Perm (filt (fun x => decide (x ∈ L)) (n + 1)) := by
    refine (List.perm_ext_iff_of_nodup h ?_).2 (fun x => ?_)
    · exact (filt_rising _ _).imp (fun h => Nat.ne_of_lt h)
    · rw [mem_filt]
      constructor
      · intro hm; exact ⟨by have := hx x hm; omega, by simpa using hm⟩
      · rintro ⟨_, hm⟩; simpa using hm
  rw [hperm.length_eq, filt_length]
  exact cntB_le _ _
/-- A list of places, none of which is one of this piece's. -/
def Fit (t v : List UInt8) (L : List Nat) : Prop := L.Nodup ∧ (∀ x ∈ L, x ≤ t.length) ∧ ∀ x ∈ L, stP t v x = false
theorem Fit.len {t v : List UInt8} {L : List Nat} (h : Fit t v L) : L.length ≤ t.length + 1 := nodup_len h.1 h.2.1
theorem Fit.nil (t v : List UInt8) : Fit t v [] := ⟨List.nodup_nil, by simp, by simp⟩
theorem Fit.child {t P : List UInt8} {pi ta re : Bool} {k : Nat} {v fl : List UInt8} {c : UInt8} {L L1 : List Nat} (h : Fit t v L) (hf : FoundB t P pi ta re k v fl L1) (hc : c ∉ fl) : Fit t (v ++ [c]) (L ++ L1) := by
  have hst : ∀ x ∈ L1, x ≤ t.length ∧ stP t v x = true ∧ stP t (v ++ [c]) x = false := by
    intro x hx
    obtain ⟨d, hd, hx1, u, hs, _⟩ := (hf.2 x).1 hx
    have h1 := stP_sub hs
    refine ⟨hx1, stP_sub h1, ?_⟩
    cases hq : stP t (v ++ [c]) x with
    | false => rfl
    | true => exact absurd (stP_next hq h1 ▸ hd) hc
  refine ⟨?_, ?_, ?_⟩
  · rw [List.nodup_append]
    refine ⟨h.1, hf.1, ?_⟩
    rintro a ha b hb rfl
    have h1 := h.2.2 a ha
    rw [(hst a hb).2.1] at h1
    cases h1
  · intro x hx
    rcases List.mem_append.1 hx with h1 | h1
    · exact h.2.1 x h1
    · exact (hst x h1).1
  · intro x hx
    rcases List.mem_append.1 hx with h1 | h1
    · cases hq : stP t (v ++ [c]) x with
      | false => rfl
      | true =>
        have h2 := h.2.2 x h1
        rw [stP_sub hq] at h2
        cases h2
    · exact (hst x h1).2.2
theorem rl_found {t P : List UInt8} {pi ta re : Bool} {k : Nat} {v : List UInt8} {f : Nat → Nat} (F : IsSA t f) (h : rb P pi ta re v k P.length = true) {lo hi bk : Nat} (hp : PairIs t v lo hi bk) : Found t P pi ta re k v (rl f lo (hi - lo)) := by
  obtain ⟨rfl, rfl, rfl⟩ := hp
  have hhi := HI_le t v
  have hlo := LO_le t v
  refine ⟨rl_nodup f _ _ (fun i j h1 h2 e => ?_), fun x => ?_⟩
  · have := F.inj (show LO t v + i ≤ t.length by omega) (show LO t v + j ≤ t.length by omega) e
    omega
  · rw [mem_rl, hit_take h]
    constructor
    · rintro ⟨j, hj, rfl⟩
      exact ⟨F.le (LO t v + j) (by omega), (row_in F v (LO t v + j) (by omega)).1 ⟨by omega, by omega⟩⟩
    · rintro ⟨hx, hs⟩
      obtain ⟨r, hr, rfl⟩ := F.surj hx
      have := (row_in F v r (by omega)).2 hs
      exact ⟨r - LO t v, by omega, by rw [show LO t v + (r - LO t v) = r from by omega]⟩
/-- The word of what a piece comes of holds the whole pattern, or not. -/
theorem whole_bits (F : Nat → Bool) (m : Nat) (h : m < 64) : bits BinOp.and IntKind.u64 (wd F : Int) ((2 ^ m : Nat) : Int) = if F m then ((2 ^ m : Nat) : Int) else 0 := by
  have h2 : 2 ^ m < 2 ^ 64 := Nat.pow_lt_pow_right (by decide) h
  rw [u64_and_nat _ _ (by simpa using wd_lt F) (by simpa using h2), wd_has F m h]
  split <;> rfl
end Go.Proofs.YtkebgnpifmcmaabGreat

namespace Go.Proofs.YtkebgnpifmcmaabGreat
open Go.RowKit

/-- All blocks but one, save rows of integers, are as they were. -/
def KeepB (w w' : World) (gS : Nat) : Prop := ∀ b T cs, T ≠ 3 → b ≠ gS → Blk w b T cs → Blk w' b T cs
theorem KeepB.refl (w : World) (gS : Nat) : KeepB w w gS := fun _ _ _ _ _ h => h
theorem KeepB.trans {a b c : World} {gS : Nat} (h : KeepB a b gS) (h' : KeepB b c gS) : KeepB a c gS := fun x T cs h1 h2 h3 => h' x T cs h1 h2 (h x T cs h1 h2 h3)
theorem KeepB.below {a b c : World} {gS : Nat} (h : KeepB a b gS) (hb : Below b.heap.size b c) : KeepB a c gS := fun x T cs h1 h2 h3 => by
  have := h x T cs h1 h2 h3
  exact this.below hb this.lt
theorem KeepB.set {a b : World} {gS : Nat} (h : KeepB a b gS) (j : Nat) (u : Value) : KeepB a (b.setCell ⟨gS, j, none⟩ u) gS := fun x T cs h1 h2 h3 => (h x T cs h1 h2 h3).setOther h2 u
theorem KeepB.grown {a b c : World} {gS base n : Nat} {v : Value} {xs : List Value} (h : KeepB a b gS) (ho : b.ownsRow base 3 1 v n xs) (hg : b.grownBy c v.ownBlock) : KeepB a c gS := fun x T cs h1 h2 h3 => by
  have := h x T cs h1 h2 h3
  exact this.grown hg (blk_ne_own this ho h1)
theorem enterPlace (args : Array Value) (w : World) : (callFunc 63 args).run Tryz.prog w = .ok (.enter 63 args) w := Go.MuLone.run_callFunc_enter (P := Tryz.prog) Tryz.func63 (by kernel_rfl) rfl args w
theorem SB.grown {w w' : World} {gS x m k base n : Nat} {HV : Nat → Nat} {kv pv : Value} {v : Value} {xs : List Value} (h : SB w gS x m k HV kv pv) (ho : w.ownsRow base 3 1 v n xs) (hg : w.grownBy w' v.ownBlock) : SB w' gS x m k HV kv pv := Blk.grown h hg (blk_ne_own h ho (by decide))

set_option maxRecDepth 10000 in
set_option maxHeartbeats 2000000 in
theorem taken_any {w0 w : World} {gx : Nat} {t : List UInt8} {rate : Nat} {f f2 : Nat → Nat} (h0 : IxT w0 gx t rate f f2) (hb : Below w0.heap.size w0 w) {gS m k : Nat} {HV : Nat → Nat} {kv pv : Value} (hS : SB w gS gx m k HV kv pv) (hgS : w0.heap.size ≤ gS) {L : List Nat} (hown : OwnL w w0.heap.size pv L) (hL : L.length ≤ 3000) (lo up bk : Nat) (hlo : lo ≤ up) (hup : up ≤ t.length + 1) :
    Calls Tryz.prog 86 #[.pointer (some ⟨gS, 0, none⟩), .agg #[.int .i64 (lo : Int), .int .i64 (up : Int), .int .i64 (bk : Int)]] w fun e w' => e = .returned (.tuple #[]) ∧ ∃ pv', SB w' gS gx m k HV kv pv' ∧ OwnL w' w0.heap.size pv' (L ++ rl f lo (up - lo)) ∧ Below w0.heap.size w0 w' ∧ KeepB w w' gS := by
  obtain ⟨i0, hi, hz0, hz1, hz2⟩ := info_parts Tryz.info3
  have hn := h0.2.2.1
  have HPL : Hid (∀ r w', r ≤ t.length → Below w0.heap.size w0 w' → Calls Tryz.prog 63 #[.pointer (some ⟨gx, 0, none⟩), .int .i64 (r : Int)] w' fun e w2 => e = .returned (.int .i64 (f r : Int)) ∧ Below w'.heap.size w' w2) := fun r w' hr hb => place_any (h0.below hb) r hr
  have HFR : Hid (∀ r, r ≤ t.length → f r ≤ t.length) := fun r hr => h0.1.le r hr
  clear h0
  have q0 := Blk.new w 47 #[.int .i64 (lo : Int), .int .i64 (up : Int), .int .i64 (bk : Int)]
  have hbA := (Below.refl w.heap.size w).alloc (Nat.le_refl _) (.cells #[.int .i64 (lo : Int), .int .i64 (up : Int), .int .i64 (bk : Int)] 47)
  have hb1 := hb.alloc hb.size (.cells #[.int .i64 (lo : Int), .int .i64 (up : Int), .int .i64 (bk : Int)] 47)
  have hS1 := hS.below hbA
  have hown1 : OwnL _ w0.heap.size pv L := own_below hown hbA
  have hK1 := (KeepB.refl w gS).below hbA
  have hne : w.heap.size ≠ gS := by have : gS < w.heap.size := Blk.lt hS; omega
  have c0 : (w.alloc (.cells #[.int .i64 (lo : Int), .int .i64 (up : Int), .int .i64 (bk : Int)] 47)).cell? ⟨w.heap.size, 0, none⟩ = some (.int .i64 (lo : Int)) := q0.cell 0
  clear hS hown hb hbA
  go_enter Tryz.func86, Tryz.ntmps86
  go_wp2_with fail
  clear c0
  generalize w.alloc (.cells #[.int .i64 (lo : Int), .int .i64 (up : Int), .int .i64 (bk : Int)] 47) = W0 at *
  obtain ⟨GB, hGB⟩ : ∃ G, G = w.heap.size := ⟨_, rfl⟩
  rw [← hGB] at q0 hne ⊢
  clear hGB
  go_loopw [4] (fun iv wr => ∃ J : Nat, lo ≤ J ∧ J ≤ up ∧ iv = .int .i64 (J : Int) ∧ Blk wr GB 47 #[.int .i64 (lo : Int), .int .i64 (up : Int), .int .i64 (bk : Int)] ∧ (∃ pv', SB wr gS gx m k HV kv pv' ∧ OwnL wr w0.heap.size pv' (L ++ rl f lo (J - lo))) ∧ Below w0.heap.size w0 wr ∧ KeepB w wr gS) (fun iv _ => up - (intOf iv).toNat)
  case atStart => exact ⟨lo, Nat.le_refl _, hlo, rfl, q0, ⟨pv, hS1, by rw [Nat.sub_self, show rl f lo 0 = [] from rfl, List.append_nil]; exact hown1⟩, hb1, hK1⟩
  case round =>
    clear q0 hS1 hown1 hb1 hK1
    obtain ⟨J, hj1, hj2, rfl, q0, ⟨pv', hS, hown⟩, hb, hK⟩ := hrel
    have c1 : wr.cell? ⟨GB, 1, none⟩ = some (.int .i64 (up : Int)) := q0.cell 1
    by_cases hlt : J < up
    · have d1 : (J : Int) < (up : Int) := by omega
      have hbd := hb.drew
      have HC : Hid _ := HPL.out J wr.drew (by omega) hbd
      have hfr := HFR.out J (by omega)
      have HRL : Hid (L ++ rl f lo (J + 1 - lo) = (L ++ rl f lo (J - lo)) ++ [f J]) := by
        show L ++ rl f lo (J + 1 - lo) = _
        rw [show J + 1 - lo = (J - lo) + 1 from by omega, rl, List.append_assoc, show lo + (J - lo) = J from by omega]
      have hll : (L ++ rl f lo (J - lo)).length = L.length + (J - lo) := by rw [List.length_append, rl_length]
      have HLL : Hid ((L ++ rl f lo (J - lo)).length = L.length + (J - lo)) := hll
      have x1 := hS.x
      have x2 := hS.places
      have x1' : wr.drew.cell? ⟨gS, 0, none⟩ = some (.pointer (some ⟨gx, 0, none⟩)) := x1
      have x2' : wr.drew.cell? ⟨gS, 260, none⟩ = some pv' := x2
      have hSd : SB wr.drew gS gx m k HV kv pv' := hS
      have hownd : wr.drew.ownsRow w0.heap.size 3 1 pv' (L ++ rl f lo (J - lo)).length (NL (L ++ rl f lo (J - lo))) := hown
      have hKd : KeepB w wr.drew gS := hK
      have q0d : Blk wr.drew GB 47 #[.int .i64 (lo : Int), .int .i64 (up : Int), .int .i64 (bk : Int)] := q0
      rw [hll] at hownd
      have hLJ : L.length + (J - lo) ≤ 6000 := by omega
      clear hll
      generalize f J = FJ at *
      generalize hLJe : L.length + (J - lo) = LJ at *
      generalize hLLe : L ++ rl f lo (J - lo) = LL at *
      clear hLJe hLLe
      go_upto_region 4 with fail
      go_region_law (first
        | (refine step_calls (args := #[.pointer (some ⟨gx, 0, none⟩), .int .i64 (J : Int)]) rfl rfl enterPlace (by simp [Act.eval]) HC.out ?_; rintro en w2 ⟨rfl, hb2⟩; refine ⟨_, rfl, ?_⟩; have hS2 := hSd.below hb2; have y1 := hS2.x; have y2 := hS2.places; have hown2 := own_below hownd hb2; have y3 := fun o => (hS2.below ((Below.refl _ _).alloc (Nat.le_refl _) o)).places)
        | (refine step_append_own rfl (.tmp 17) (.tmp 24) 32 rfl w0.heap.size 3 i0 (.int .i64 0) 1 8 Tryz.underlying32 hi hz0 hz1 hz2 rfl (by decide) pv' LJ (NL LL) rfl (own_below hown2 ((Below.refl _ _).alloc (Nat.le_refl _) _)) ⟨w2.heap.size, 0, none⟩ 1 1 [.int .i64 (FJ : Int)] rfl rfl (cell_one_new _ _ _) (by simp; rfl) (by unfold maxLen; omega) (by omega) (by have := hb2.size; have := hbd.size; simp; omega) ?_; intro v' w3 hown3 hgr3; obtain ⟨g', cap', rfl⟩ := own_form hown3 (by omega); have hownA := own_below hown2 ((Below.refl _ _).alloc (Nat.le_refl _) (.cells #[.int .i64 (FJ : Int)] 3)); have hSA := hS2.below ((Below.refl _ _).alloc (Nat.le_refl _) (.cells #[.int .i64 (FJ : Int)] 3)); have hS3 := hSA.grown hownA hgr3; have hc3 := hS3.places; have hf3 := Blk.free hS3 260))
      all_goals (go_wp2_with fail)
      all_goals
        have hb3 : Below w0.heap.size w0 w3 := ((hbd.trans (hb2.mono hbd.size)).alloc (by have := hb2.size; have := hbd.size; omega) _).grown hgr3 (by have := hb2.size; have := hbd.size; simp; omega) (fun g hg => (hownA.lt g hg).1)
        have hK3 := ((hKd.below hb2).below ((Below.refl _ _).alloc (Nat.le_refl _) (.cells #[.int .i64 (FJ : Int)] 3))).grown hownA hgr3
        have q3 := (((q0d.below hb2 q0d.lt).alloc (.cells #[.int .i64 (FJ : Int)] 3)).grown hgr3 (blk_ne_own (q0d.below hb2 q0d.lt) hown2 (by decide)))
        have hown4 := own_setOther hown3 ⟨gS, 260, none⟩ (.slice (some ⟨g', 0, none⟩) (LJ + 1) cap') (blk_ne_own hS3 hown3 (by decide))
        rw [NL_snoc] at hown4
      all_goals go_roundw
      all_goals first
        | exact ⟨J + 1, by omega, by omega, by go_num, q3.setOther hne _, ⟨_, hS3.setPlaces _, by rw [HRL.out]; show World.ownsRow _ _ 3 1 _ (LL ++ [FJ]).length _; rw [List.length_append, HLL.out]; exact hown4⟩, hb3.setCell hgS _, hK3.set _ _⟩
        | (simp [intOf]; omega)
    · obtain rfl : J = up := by omega
      go_wp2
      exact bodyPost_end (results_none rfl _ _ _) rfl ⟨rfl, pv', hS, hown, hb, hK⟩
end Go.Proofs.YtkebgnpifmcmaabGreat
