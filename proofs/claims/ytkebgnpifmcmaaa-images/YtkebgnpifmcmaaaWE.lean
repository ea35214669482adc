import Derived.Test.YtkebgnpifmcmaaaSuf
import Derived.Lib.IndexBytes
namespace Go.Proofs.Ytkebgnpifmcmaaa
open Go.RowKit

def RL (f : Nat → Nat) (m : Nat) : List Value := (List.range m).map (IN f)
theorem RL_get (f : Nat → Nat) (m j : Nat) (h : j < m) : (RL f m)[j]? = some (IN f j) := by simp [RL, h]
theorem RL_length (f : Nat → Nat) (m : Nat) : (RL f m).length = m := by simp [RL]
theorem RL_succ (f : Nat → Nat) (m x : Nat) : RL f m ++ [.int .i64 (x : Int)] = RL (upd f m x) (m + 1) := by
  unfold RL
  rw [List.range_succ, List.map_append]
  congr 1
  · refine List.map_congr_left (fun j hj => ?_)
    have := List.mem_range.1 hj
    simp only [IN]; rw [upd_ne _ _ _ (by omega)]
  · simp only [List.map_cons, List.map_nil, IN]; rw [upd_at]
theorem RL_set (f : Nat → Nat) (m j x : Nat) : (RL f m).set j (.int .i64 (x : Int)) = RL (upd f j x) m := by
  apply List.ext_getElem?
  intro i
  rw [List.getElem?_set]
  by_cases e : j = i
  · subst e
    by_cases h : j < m
    · simp [RL, h, IN, upd]
    · simp [RL, h]
  · rw [if_neg e]
    by_cases h : i < m
    · rw [RL_get _ _ _ h, RL_get _ _ _ h]; simp only [IN]; rw [upd_ne _ _ _ (fun h => e h.symm)]
    · simp [RL, h]

/-- The rows so far: the places behind n - m, sorted. -/
structure SS (t : List UInt8) (m : Nat) (f : Nat → Nat) : Prop where
  lo : ∀ j, j < m → t.length < f j + m
  hi : ∀ j, j < m → f j ≤ t.length
  lt : ∀ j k, j < k → k < m → sl t (f j) (f k) = true

theorem own_shape {w : World} {base : Nat} {v : Value} {m : Nat} {f : Nat → Nat} (h : w.ownsRow base 3 1 v m (RL f m)) :
    ∃ ao cap, v = .slice ao m cap ∧ (0 < m → ∃ g, ao = some ⟨g, 0, none⟩ ∧ base ≤ g ∧ Row w g 3 m (IN f)) := by
  rcases h.2 with ⟨hv, h0⟩ | ⟨g, cap, cur, hv, hb, hg, hnc, hcm, hcs, htake⟩
  · exact ⟨none, 0, by rw [hv, h0], fun x => by omega⟩
  · refine ⟨some ⟨g, 0, none⟩, cap, hv, fun _ => ⟨g, rfl, hb, ?_⟩⟩
    subst hv
    exact Row.owned h (fun j hj => RL_get f m j hj)

theorem own_next {w : World} {base : Nat} {v : Value} {m x : Nat} {f : Nat → Nat} (h : w.ownsRow base 3 1 v (m + 1) (RL f m ++ [.int .i64 (x : Int)])) :
    ∃ g cap, v = .slice (some ⟨g, 0, none⟩) (m + 1) cap ∧ base ≤ g ∧ m + 1 ≤ cap ∧ cap ≤ maxLen ∧ w.ownsRow base 3 1 (.slice (some ⟨g, 0, none⟩) (m + 1) cap) (m + 1) (RL (upd f m x) (m + 1)) := by
  rw [RL_succ] at h
  rcases h.2 with ⟨hv, h0⟩ | ⟨g, cap, cur, hv, hb, hg, hnc, hcm, hcs, htake⟩
  · omega
  · subst hv
    exact ⟨g, cap, rfl, hb, hnc, hcm, h⟩
theorem own_row {w : World} {base g m cap : Nat} {f : Nat → Nat} (h : w.ownsRow base 3 1 (.slice (some ⟨g, 0, none⟩) m cap) m (RL f m)) : Row w g 3 m (IN f) := Row.owned h (fun j hj => RL_get f m j hj)
theorem own_set {w : World} {base g m cap : Nat} {f : Nat → Nat} (h : w.ownsRow base 3 1 (.slice (some ⟨g, 0, none⟩) m cap) m (RL f m)) (j x : Nat) : (w.setCell ⟨g, j, none⟩ (.int .i64 (x : Int))).ownsRow base 3 1 (.slice (some ⟨g, 0, none⟩) m cap) m (RL (upd f j x) m) := by
  rw [← RL_set]; exact (h.stored j _).1
theorem own_congr {w : World} {base : Nat} {v : Value} {m : Nat} {f g : Nat → Nat} (h : w.ownsRow base 3 1 v m (RL f m)) (e : ∀ j, j < m → f j = g j) : w.ownsRow base 3 1 v m (RL g m) := by
  have : RL f m = RL g m := List.map_congr_left (fun j hj => by simp only [IN, e j (List.mem_range.1 hj)])
  rw [← this]; exact h

theorem less_ext (s : ByteArray) (x y : Nat) : Op.bytesLess (s.extract x s.size).toList (s.extract y s.size).toList = sl (tx s) x y := by
  rw [Lib.toList_data, Lib.toList_data, Lib.extract_to_end, Lib.extract_to_end]; rfl
theorem search_yes {t : List UInt8} {m k i : Nat} {f : Nat → Nat} (S : SS t m f) (hk : k < m) (h : sl t (f k) i = true) : ∀ j, j < k + 1 → sl t (f j) i = true := by
  intro j hj
  by_cases e : j = k
  · subst e; exact h
  · exact sl_trans (S.lt j k (by omega) hk) h
theorem search_no {t : List UInt8} {m k i : Nat} {f : Nat → Nat} (S : SS t m f) (h : sl t (f k) i = false) : ∀ j, k ≤ j → j < m → sl t (f j) i = false := by
  intro j hj hjm
  by_cases e : j = k
  · subst e; exact h
  · rw [← Bool.not_eq_true]
    intro x
    have := sl_trans (S.lt k j (by omega) hjm) x
    rw [h] at this; cases this
/-- The list with i put in at a. -/
def ins (f : Nat → Nat) (a i j : Nat) : Nat := if j < a then f j else if j = a then i else f (j - 1)
theorem SS.ins {t : List UInt8} {m a i : Nat} {f : Nat → Nat} (S : SS t m f) (hi : i + m = t.length) (ha : a ≤ m) (h1 : ∀ j, j < a → sl t (f j) i = true) (h2 : ∀ j, a ≤ j → j < m → sl t (f j) i = false) : SS t (m + 1) (ins f a i) := by
  have h2' : ∀ j, a ≤ j → j < m → sl t i (f j) = true := by
    intro j hj hjm
    have := S.lo j hjm
    rcases sl_total (t := t) (a := i) (b := f j) (by omega) (S.hi j hjm) (by omega) with x | x
    · exact x
    · rw [h2 j hj hjm] at x; cases x
  refine ⟨fun j hj => ?_, fun j hj => ?_, fun j k hjk hk => ?_⟩
  · unfold Proofs.Ytkebgnpifmcmaaa.ins
    split
    · have := S.lo j (by omega); omega
    · split
      · omega
      · have := S.lo (j - 1) (by omega); omega
  · unfold Proofs.Ytkebgnpifmcmaaa.ins
    split
    · exact S.hi j (by omega)
    · split
      · omega
      · exact S.hi (j - 1) (by omega)
  · unfold Proofs.Ytkebgnpifmcmaaa.ins
    by_cases ja : j < a
    · rw [if_pos ja]
      by_cases ka : k < a
      · rw [if_pos ka]; exact S.lt j k hjk (by omega)
      · rw [if_neg ka]
        by_cases ke : k = a
        · rw [if_pos ke]; exact h1 j ja
        · rw [if_neg ke]; exact S.lt j (k - 1) (by omega) (by omega)
    · rw [if_neg ja, if_neg (show ¬ k < a by omega), if_neg (show ¬ k = a by omega)]
      by_cases je : j = a
      · rw [if_pos je]; exact h2' (k - 1) (by omega) (by omega)
      · rw [if_neg je]; exact S.lt (j - 1) (k - 1) (by omega) (by omega)
theorem SS.sa {t : List UInt8} {f : Nat → Nat} (S : SS t (t.length + 1) f) : IsSA t f := ⟨fun i hi => S.hi i (by omega), fun i j hij hj => S.lt i j hij (by omega)⟩
theorem SS.congr {t : List UInt8} {m : Nat} {f g : Nat → Nat} (S : SS t m f) (h : ∀ j, j < m → f j = g j) : SS t m g :=
  ⟨fun j hj => by rw [← h j hj]; exact S.lo j hj, fun j hj => by rw [← h j hj]; exact S.hi j hj, fun j k hjk hk => by rw [← h j (by omega), ← h k hk]; exact S.lt j k hjk hk⟩

set_option maxRecDepth 10000 in
set_option maxHeartbeats 1000000 in
theorem rows_any (s : ByteArray) (w : World) (hn : s.size ≤ 2000) :
    Calls Try.prog 37 #[.string s] w fun e w' => ∃ f, NewN w w' e (s.size + 1) f ∧ IsSA (tx s) f := by
  obtain ⟨i0, hi, hz0, hz1, hz2⟩ := info_parts Try.info3
  go_enter Try.func37, Try.ntmps37
  go_wp2_with fail
  go_loopw [3, 4] (fun v i wr => ∃ m f, m ≤ s.size + 1 ∧ i = .int .i64 ((s.size : Int) - (m : Nat)) ∧ wr.ownsRow w.heap.size 3 1 v m (RL f m) ∧ Hid (SS (tx s) m f) ∧ Below w.heap.size w wr) (fun _ i _ => (intOf i + 1).toNat)
  case atStart => exact ⟨0, fun _ => 0, by omega, by simp, World.ownsRow_nil _ _ _ _, ⟨fun j hj => by omega, fun j hj => by omega, fun j k _ hk => by omega⟩, Below.refl _ _⟩
  case round =>
    obtain ⟨m, f, hm, rfl, hown, HS, hb⟩ := hrel
    obtain ⟨ao, cap, rfl, hao⟩ := own_shape hown
    by_cases hlt : m ≤ s.size
    · go_wp2_with fail
      go_loopw [5, 6, 7] (fun lo hi _ wq => ∃ a b : Nat, a ≤ b ∧ b ≤ m ∧ lo = .int .i64 (a : Int) ∧ hi = .int .i64 (b : Int) ∧ (∃ q, wq = wr.drewN q) ∧ Hid (∀ j, j < a → sl (tx s) (f j) (s.size - m) = true) ∧ Hid (∀ j, b ≤ j → j < m → sl (tx s) (f j) (s.size - m) = false)) (fun lo hi _ _ => (intOf hi - intOf lo).toNat)
      case atStart => exact ⟨0, m, by omega, by omega, rfl, rfl, ⟨0, rfl⟩, fun j hj => by omega, fun j h1 h2 => by omega⟩
      case round =>
        obtain ⟨a, b, hab, hbm, rfl, rfl, ⟨q, rfl⟩, H1, H2⟩ := hrel
        by_cases hab' : a < b
        · obtain ⟨g, rfl, hg, hr⟩ := hao (by omega)
          have hmid := hr.cell (show (a + b) / 2 < m by omega)
          rw [IN_at] at hmid
          have hfm := HS.out.hi ((a + b) / 2) (by omega)
          rw [tx_length] at hfm
          go_wp2
          go_quiet (fail)
          go_wp2
          · have hyes : Op.bytesLess (s.extract (f ((a + b) / 2)) s.size).toList (s.extract (s.size - m) s.size).toList = true := by assumption
            rw [less_ext] at hyes
            go_roundw
            case rel => exact ⟨(a + b) / 2 + 1, b, by omega, by omega, by go_num, rfl, ⟨_, rfl⟩, search_yes HS.out (by omega) hyes, H2⟩
            case measure => simp [intOf]; omega
          · have hno : Op.bytesLess (s.extract (f ((a + b) / 2)) s.size).toList (s.extract (s.size - m) s.size).toList = false := by assumption
            rw [less_ext] at hno
            go_roundw
            case rel => exact ⟨a, (a + b) / 2, by omega, by omega, rfl, by go_num, ⟨q + nq, by rw [World.drewN_drewN]⟩, H1, search_no HS.out hno⟩
            case measure => simp [intOf]; omega
        · have hab2 : a = b := by omega
          subst hab2
          have hsz := hb.size
          have hown' : (wr.drewN q).ownsRow w.heap.size 3 1 (.slice ao m cap) m (RL f m) := hown
          have hb' := bdrewN hb q
          clear hown hb
          generalize wr.drewN q = wa at *
          have hsz' := hb'.size
          go_wp2_with (at_builtin; refine wpList_append_own _ rfl (.tmp 37) (.tmp 38) 22 rfl w.heap.size 3 i0 (.int .i64 0) 1 8 Try.underlying22 hi hz0 hz1 hz2 rfl (by decide) (.slice ao m cap) m _ rfl (hown'.alloc _) ⟨wa.heap.size, 0, none⟩ 1 1 [.int .i64 0] rfl rfl (cell_one_new _ _ _) (by simp; rfl) (by unfold maxLen; omega) (by omega) (by simp; omega) ?_; intro v' w1 hown1 hgr1 _; obtain ⟨g1, cap1, hv, hg1, hc1, hc2, hown2⟩ := own_next (x := 0) hown1; rw [hv])
          have hb1 : Below w.heap.size w w1 := (hb'.alloc hsz' _).grown hgr1 (by simp; omega) (fun k hk => (hown'.lt k hk).1)
          clear hown1 hgr1 hv hown' hb' hao
          go_loopw [8] (fun vk wq => ∃ k : Nat, a ≤ k ∧ k ≤ m ∧ vk = .int .i64 (k : Int) ∧ (∃ h, wq.ownsRow w.heap.size 3 1 (.slice (some ⟨g1, 0, none⟩) (m + 1) cap1) (m + 1) (RL h (m + 1)) ∧ Hid (∀ j, j < k → h j = f j) ∧ Hid (∀ j, k < j → j < m + 1 → h j = f (j - 1))) ∧ Below w.heap.size w wq) (fun vk _ => (intOf vk).toNat)
          case atStart => exact ⟨m, hbm, Nat.le_refl _, by go_num, ⟨_, hown2, fun j hj => upd_ne _ _ _ (by omega), fun j h1 h2 => by omega⟩, hb1⟩
          case round =>
            clear hown2 hb1
            obtain ⟨k, hak, hkm, rfl, ⟨h, ho, H3, H4⟩, hbq⟩ := hrel
            have hrow := own_row ho
            by_cases hgt : a < k
            · have hc1 := hrow.cell (show k - 1 < m + 1 by omega)
              have hc2 := hrow.cell (show k < m + 1 by omega)
              have hfz := hrow.free k
              rw [IN_at] at hc1 hc2
              go_wp2
              go_roundw
              case rel => exact ⟨k - 1, by omega, by omega, by go_num, ⟨_, own_set ho k (h (k - 1)), fun j hj => by rw [upd_ne _ _ _ (by omega)]; exact H3.out j (by omega), fun j h1 h2 => by
                  by_cases e : j = k
                  · subst e; rw [upd_at]; exact H3.out _ (by omega)
                  · rw [upd_ne _ _ _ e]; exact H4.out j (by omega) h2⟩, hbq.setCell hg1 _⟩
              case measure => simp [intOf]; omega
            · have hka : k = a := by omega
              subst hka
              have hc2 := hrow.cell (show k < m + 1 by omega)
              have hfz := hrow.free k
              rw [IN_at] at hc2
              go_wp2
              go_roundw
              case rel =>
                have ei : ((s.size : Int) - (m : Int)) = ((s.size - m : Nat) : Int) := by omega
                rw [ei]
                refine ⟨m + 1, ins f k (s.size - m), by omega, by go_num, own_congr (own_set ho k (s.size - m)) (fun j hj => ?_), ?_, hbq.setCell hg1 _⟩
                · unfold ins
                  by_cases e : j = k
                  · subst e; rw [upd_at, if_neg (by omega), if_pos rfl]
                  · rw [upd_ne _ _ _ e]
                    by_cases l : j < k
                    · rw [if_pos l]; exact H3.out j l
                    · rw [if_neg l, if_neg e]; exact H4.out j (by omega) hj
                · exact HS.out.ins (by rw [tx_length]; omega) hbm H1.out H2.out
              case measure => simp [intOf]; omega
    · have hms : m = s.size + 1 := by omega
      subst hms
      obtain ⟨g, rfl, hg, hr⟩ := hao (by omega)
      go_wp2
      go_ret
      refine ⟨f, ⟨g, cap, rfl, ?_, ?_, hg, hr, hb⟩, ?_⟩
      · rcases hown.2 with ⟨hv, h0⟩ | ⟨g', cap', cur, hv, _, _, hnc, hcm, _⟩
        · omega
        · simp at hv; omega
      · rcases hown.2 with ⟨hv, h0⟩ | ⟨g', cap', cur, hv, _, _, hnc, hcm, _⟩
        · omega
        · simp at hv; omega
      · have S := HS.out
        rw [← tx_length s] at S
        exact S.sa

end Go.Proofs.Ytkebgnpifmcmaaa
