import Derived.Test.YtkebgnpifmcmaaaLf
import Derived.Test.YtkebgnpifmcmaaaWM
namespace Go.Proofs.Ytkebgnpifmcmaaa
open Go.RowKit

/-- An array of 256 integers, by a function. -/
def AI (f : Nat → Int) : Array Value := (Array.range 256).map (II f)
theorem AI_size (f : Nat → Int) : (AI f).size = 256 := by simp [AI]
theorem AI_get (f : Nat → Int) (j : Nat) (h : j < 256) : (AI f)[j]? = some (.int .i64 (f j)) := by simp [AI, h, II]
theorem AI_set (f : Nat → Int) (j : Nat) (x : Int) : (AI f).setIfInBounds j (.int .i64 x) = AI (upd f j x) := by
  apply Array.ext_getElem?
  intro i
  rw [Array.getElem?_setIfInBounds]
  by_cases e : j = i
  · subst e
    rw [if_pos rfl, AI_size]
    by_cases h : j < 256
    · rw [if_pos h, AI_get _ _ h, upd_at]
    · rw [if_neg h]; symm; rw [Array.getElem?_eq_none_iff, AI_size]; omega
  · rw [if_neg e]
    by_cases h : i < 256
    · rw [AI_get _ _ h, AI_get _ _ h, upd_ne _ _ _ (fun h => e h.symm)]
    · have h1 : (AI f)[i]? = none := by rw [Array.getElem?_eq_none_iff, AI_size]; omega
      have h2 : (AI (upd f j x))[i]? = none := by rw [Array.getElem?_eq_none_iff, AI_size]; omega
      rw [h1, h2]
def ArrI (w : World) (g : Nat) (f : Nat → Int) : Prop := w.heap[g]? = some (.cells (AI f) 37 (0, 0))
theorem ArrI.cell {w : World} {g : Nat} {f : Nat → Int} (h : ArrI w g f) {j : Nat} (hj : j < 256) : w.cell? ⟨g, j, none⟩ = some (.int .i64 (f j)) := by
  rw [cell_of_row w g j _ _ _ h, AI_get f j hj]
theorem ArrI.free {w : World} {g : Nat} {f : Nat → Int} (h : ArrI w g f) (j : Nat) : w.frozen? ⟨g, j, none⟩ = false := frozen_of_row w g j _ _ h
theorem ArrI.set {w : World} {g : Nat} {f : Nat → Int} (h : ArrI w g f) (j : Nat) (x : Int) : ArrI (w.setCell ⟨g, j, none⟩ (.int .i64 x)) g (upd f j x) := by
  unfold ArrI; rw [heap_setCell_same w g j _ _ _ h, AI_set]
theorem ArrI.new (w : World) : ArrI (w.alloc (.cells (A256 (fun _ => 0)) 37)) w.heap.size (fun _ => 0) := heap_alloc_new w _

theorem restore_all (s : ByteArray) (x : Int) (w : World) (hn : s.size ≤ 2000) :
    Calls Try.prog 18 #[.string s, .int .i64 x] w fun en w' => ∃ U gc, en = .returned (.tuple #[.string U, .int .i64 gc]) ∧
      ((gc = 3 ∧ U = ByteArray.empty) ∨ (gc = 0 ∧ ∃ k : Nat, x = (k : Int) ∧ k ≤ s.size ∧ okBack (tx s) k ∧ U = bs (backText (tx s) k))) ∧ Below w.heap.size w w' := by
  by_cases hx : x < 0 ∨ (s.size : Int) < x
  · refine (restore_out s x w hn hx).mono ?_
    rintro e w1 ⟨rfl, rfl⟩
    exact ⟨_, _, rfl, .inl ⟨rfl, rfl⟩, Below.refl _ _⟩
  · obtain ⟨k, rfl⟩ := Int.eq_ofNat_of_zero_le (show 0 ≤ x by omega)
    refine (restore_in s k w hn (by omega)).mono ?_
    rintro e w1 ⟨⟨h, rfl⟩ | ⟨h, rfl⟩, hb⟩
    · exact ⟨_, _, rfl, .inr ⟨rfl, k, rfl, by omega, h, rfl⟩, hb⟩
    · exact ⟨_, _, rfl, .inl ⟨rfl, rfl⟩, hb⟩

/-- One round of the counting. -/
theorem count_step {a b : Nat → Nat} {cf : Nat → Int} {k x y : Nat} (hx : a k = x) (hy : b k = y) (h : ∀ c, c < 256 → cf c = (cnt a c k : Int) - (cnt b c k : Int)) :
    ∀ c, c < 256 → upd (upd cf x (cf x + 1)) y (upd cf x (cf x + 1) y - 1) c = (cnt a c (k + 1) : Int) - (cnt b c (k + 1) : Int) := by
  intro c hc
  have ha : (cnt a c (k + 1) : Int) = (cnt a c k : Int) + (if c = x then 1 else 0) := by
    rw [cnt_succ, hx]
    by_cases e : c = x
    · rw [if_pos e, if_pos e.symm]; omega
    · rw [if_neg e, if_neg (fun h => e h.symm)]; omega
  have hb : (cnt b c (k + 1) : Int) = (cnt b c k : Int) + (if c = y then 1 else 0) := by
    rw [cnt_succ, hy]
    by_cases e : c = y
    · rw [if_pos e, if_pos e.symm]; omega
    · rw [if_neg e, if_neg (fun h => e h.symm)]; omega
  have hcc := h c hc
  have h1 : upd cf x (cf x + 1) c = cf c + (if c = x then 1 else 0) := by
    by_cases e : c = x
    · subst e; rw [upd_at, if_pos rfl]
    · rw [upd_ne _ _ _ e, if_neg e]; omega
  have h2 : upd (upd cf x (cf x + 1)) y (upd cf x (cf x + 1) y - 1) c = upd cf x (cf x + 1) c - (if c = y then 1 else 0) := by
    by_cases e : c = y
    · subst e; rw [upd_at, if_pos rfl]
    · rw [upd_ne _ _ _ e, if_neg e]; omega
  rw [h2, h1, ha, hb, hcc]; omega

set_option maxRecDepth 100000 in
set_option maxHeartbeats 1600000 in
theorem undone_walk (a0 : ByteArray) (a1 : Int) (w0 : a0.size ≤ maxLen) (_w1 : (Lit.int .i64 a1).wf = true) (w : World) :
    Calls Try.prog 7 #[.string a0, .int .i64 a1] w fun e w' => e = .returned (.bool true) ∧ Below w.heap.size w w' := by
  go_enter Try.func7, Try.ntmps7
  go_wp2_with fail
  refine (sorting_any _).mono ?_
  rintro e w1 ⟨rfl, hb1⟩
  go_wp2_with fail
  refine (short_any a0 2000 _ (by omega) (by omega) w0).mono ?_
  rintro e w1 ⟨s, rfl, hs, rfl⟩
  have hn : s.size ≤ 2000 := by omega
  clear hs
  go_wp2_with fail
  refine (transform_ok s _ hn).mono ?_
  rintro e w2 ⟨f, hsa, rfl, hb2⟩
  have hb12 := hb1.trans (hb2.mono hb1.size)
  have hl : (pre (tx s) f (s.size + 1)).length = s.size := by have := bwt_length hsa; rwa [tx_length] at this
  have hok := bwt_ok hsa
  have hbk := bwt_back hsa
  have hcn := bwt_cnt hsa
  have hen := (sa_end hsa).1
  rw [tx_length] at hok hbk hcn hen
  have HS1 : Hid (tx (bs (pre (tx s) f (s.size + 1))) = pre (tx s) f (s.size + 1)) := tx_bs _
  have HS2 : Hid ((bs (pre (tx s) f (s.size + 1))).size = s.size) := by show (bs (pre (tx s) f (s.size + 1))).size = _; rw [bs_size, hl]
  have HOK : Hid (okBack (tx (bs (pre (tx s) f (s.size + 1)))) (endOf f (s.size + 1))) := by show okBack _ _; rw [tx_bs]; exact hok
  have HBK : Hid (bs (backText (tx (bs (pre (tx s) f (s.size + 1)))) (endOf f (s.size + 1))) = s) := by show bs (backText _ _) = s; rw [tx_bs, hbk, bs_tx]
  have HCN : Hid (∀ c, cnt (byN (bs (pre (tx s) f (s.size + 1)))) c s.size = cnt (byN s) c s.size) := fun c => by rw [byN_eq, byN_eq, tx_bs]; exact hcn c
  clear hl hok hbk hcn hsa hb1 hb2 HS1
  generalize bs (pre (tx s) f (s.size + 1)) = S at *
  generalize endOf f (s.size + 1) = E at *
  have hS2 : S.size ≤ 2000 := by rw [HS2.out]; exact hn
  have hE : E ≤ S.size := by rw [HS2.out]; exact hen
  go_wp2_with fail
  refine (restore_in S E _ hS2 hE).mono ?_
  rintro e w3 ⟨⟨_, rfl⟩ | ⟨hno, _⟩, hb3⟩
  · have hb123 := hb12.trans (hb3.mono hb12.size)
    rw [HBK.out]
    clear hb12 hb3 HOK HBK
    go_wp2_with fail
    refine (restore_all s a1 _ hn).mono ?_
    rintro e w4 ⟨U, gc, rfl, hU, hb4⟩
    have hb1234 := hb123.trans (hb4.mono hb123.size)
    have HU : Hid ((gc = 3 ∧ U = ByteArray.empty) ∨ (gc = 0 ∧ ∃ k : Nat, a1 = (k : Int) ∧ k ≤ s.size ∧ okBack (tx s) k ∧ U = bs (backText (tx s) k))) := hU
    have hlen : ((S.size : Int) != (s.size : Int)) = false := by rw [HS2.out]; simp
    clear hU hb123 hb4
    have hsz4 := hb1234.size
    go_wp2_with (refine wpList_alloc_arr rfl rfl ?_)
    have an := ArrI.new w4
    have hb5 := hb1234.alloc hsz4 (.cells (A256 fun _ => 0) 37)
    clear hb1234
    obtain ⟨C, hC⟩ : ∃ C, C = w4.heap.size := ⟨_, rfl⟩
    rw [← hC] at an hsz4 ⊢
    generalize w4.alloc (.cells (A256 fun _ => 0) 37) = W0 at *
    clear hC
    go_loopw [15] (fun i wr => ∃ k : Nat, k ≤ s.size ∧ i = .int .i64 (k : Int) ∧ (∃ cf, ArrI wr C cf ∧ Hid (∀ c, c < 256 → cf c = (cnt (byN s) c k : Int) - (cnt (byN S) c k : Int))) ∧ Below w.heap.size w wr) (fun i _ => s.size - (intOf i).toNat)
    case atStart => exact ⟨0, Nat.zero_le _, rfl, ⟨_, an, fun c _ => rfl⟩, hb5⟩
    case round =>
      clear an hb5
      obtain ⟨k, hk, rfl, ⟨cf, hcf, HC⟩, hb⟩ := hrel
      by_cases hlt : k < s.size
      · have hltS : k < S.size := by rw [HS2.out]; exact hlt
        have hb1 := (s[k]).toNat_lt
        have hb2 := (S[k]).toNat_lt
        have R := count_step (x := (s[k]).toNat) (y := (S[k]).toNat) (byN_lt s k hlt) (byN_lt S k hltS) HC.out
        have HR : Hid _ := R
        clear R
        have hc1 := hcf.cell hb1
        have hc2 := hcf.cell hb2
        have hf1 := hcf.free (s[k]).toNat
        have hf2 := hcf.free (S[k]).toNat
        have bd : ∀ c, c < 256 → -2000 ≤ cf c ∧ cf c ≤ 2000 := fun c hc => by
          have h1 := cnt_le (byN s) c k
          have h2 := cnt_le (byN S) c k
          rw [HC.out c hc]; omega
        have bd1 := bd _ hb1
        have bd2 := bd _ hb2
        clear bd
        have bl1 := bd1.1
        have bl2 := bd1.2
        have bl3 := bd2.1
        have bl4 := bd2.2
        clear bd1 bd2
        by_cases hxy : (s[k]).toNat = (S[k]).toNat
        · have HR2 : Hid (∀ c, c < 256 → upd (upd cf (S[k]).toNat (cf (S[k]).toNat + 1)) (S[k]).toNat (upd cf (S[k]).toNat (cf (S[k]).toNat + 1) (S[k]).toNat - 1) c = (cnt (byN s) c (k + 1) : Int) - (cnt (byN S) c (k + 1) : Int)) := by
            have h := HR.out
            rw [hxy] at h
            exact h
          have HX : Hid (upd cf (S[k]).toNat (cf (S[k]).toNat + 1) (S[k]).toNat = cf (S[k]).toNat + 1) := upd_at _ _ _
          clear hc1 hf1 hb1 bl1 bl2 HR
          go_wp2
          go_roundw
          case rel =>
            refine ⟨k + 1, by omega, by go_num, ⟨_, ?_, HR2.out⟩, (hb.setCell hsz4 _).setCell hsz4 _⟩
            rw [HX.out, Int.add_sub_cancel]
            exact (hcf.set (S[k]).toNat (cf (S[k]).toNat + 1)).set (S[k]).toNat (cf (S[k]).toNat)
          case measure => simp [intOf]; omega
        · have HX : Hid (upd cf (s[k]).toNat (cf (s[k]).toNat + 1) (S[k]).toNat = cf (S[k]).toNat) := upd_ne _ _ _ (fun h => hxy h.symm)
          go_wp2
          go_roundw
          case rel =>
            refine ⟨k + 1, by omega, by go_num, ⟨_, ?_, HR.out⟩, (hb.setCell hsz4 _).setCell hsz4 _⟩
            rw [HX.out]
            exact (hcf.set (s[k]).toNat (cf (s[k]).toNat + 1)).set (S[k]).toNat (cf (S[k]).toNat - 1)
          case measure => simp [intOf]; omega
      · have hkn : k = s.size := by omega
        subst hkn
        have HZ : Hid (∀ c, c < 256 → cf c = 0) := fun c hc => by
          rw [HC.out c hc, HCN.out c]; omega
        clear HC HCN hk hlt
        go_wp2_with fail
        go_loopw [16] (fun i wq => ∃ c : Nat, c ≤ 256 ∧ i = .int .i64 (c : Int) ∧ wq = wr) (fun i _ => 256 - (intOf i).toNat)
        case atStart => exact ⟨0, by omega, rfl, rfl⟩
        case round =>
          obtain ⟨c, hc, rfl, hwq⟩ := hrel
          subst hwq
          by_cases hlt : c < 256
          · have hcc := hcf.cell hlt
            rw [HZ.out c hlt] at hcc
            go_wp2
            go_roundw
            case rel => exact ⟨c + 1, by omega, by go_num, by first | rfl | trivial⟩
            case measure => simp [intOf]; omega
          · rcases HU.out with ⟨rfl, rfl⟩ | ⟨rfl, j, rfl, hj, hokj, rfl⟩
            · clear HU
              go_wp2
              go_ret
              exact ⟨rfl, hb⟩
            · have HOJ : Hid (okBack (tx s) j) := hokj
              have hbl2 : (bs (backText (tx s) j)).size ≤ 2000 := by rw [bs_size, backText_length, tx_length]; exact hn
              clear HU hokj
              go_wp2_with fail
              refine (transform_ok (bs (backText (tx s) j)) _ hbl2).mono ?_
              rintro e w6 ⟨f2, hsa2, rfl, hb6⟩
              rw [tx_bs] at hsa2
              have T := back_transform (L := tx s) (e := j) (by rw [tx_length]; exact hj) HOJ.out hsa2
              have HB : (bs (backText (tx s) j)).size = s.size := by rw [bs_size, backText_length, tx_length]
              rw [tx_bs, HB]
              rw [tx_length] at T
              rw [T.1, T.2, bs_tx]
              have hbb := hb.trans (hb6.mono hb.size)
              clear T hsa2 hb hb6 HB
              go_wp2
              go_ret
              exact ⟨rfl, hbb⟩
  · exact absurd HOK.out hno

end Go.Proofs.Ytkebgnpifmcmaaa
