import Derived.Test.YtkebgnpifmcmaabGreatGA
import Derived.Test.YtkebgnpifmcmaabGreatGL
import Derived.Test.YtkebgnpifmcmaabGreatGC
import Derived.ArgAppend
import Derived.Test.YtkebgnpifmcmaabGreatGH
namespace Go.Proofs.YtkebgnpifmcmaabGreat
open Go.RowKit

/-- A new list of natural numbers, with no spare room. -/
def NewC (w w' : World) (e : Ending) (n : Nat) (f : Nat → Nat) : Prop :=
  ∃ g cap, e = .returned (.slice (some ⟨g, 0, none⟩) n cap) ∧ cap ≤ n ∧ cap ≤ maxLen ∧ w.heap.size ≤ g ∧ Row w' g 3 n (IN f) ∧ Below w.heap.size w w'

set_option maxRecDepth 10000 in
set_option maxHeartbeats 800000 in
theorem sortByClassC_any (gp n capp gc capc K : Nat) (p c : Nat → Nat) (w : World) (hn : n ≤ 3000) (hK : K ≤ 3000) (hrp : Row w gp 3 n (IN p)) (hrc : Row w gc 3 n (IN c)) (hp : ∀ j, j < n → p j < n) (hc : ∀ j, j < n → c j < K)
    (hperm : ∀ x, cnt (fun i => c (p i)) x n = cnt c x n) :
    Calls Tryz.prog 98 #[.slice (some ⟨gp, 0, none⟩) n capp, .slice (some ⟨gc, 0, none⟩) n capc, .int .i64 (K : Int)] w fun e w' =>
      ∃ s, NewC w w' e n s ∧ ∀ i, i < n → s (rk (fun i => c (p i)) n i) = p i := by
  obtain ⟨i0, hi, hz0, hz1, hz2⟩ := info_parts Tryz.info3
  have hplt := hrp.lt
  have hclt := hrc.lt
  have HP : Hid (∀ x, less (fun i => c (p i)) x n = less c x n) := less_of_cnt hperm
  clear hperm
  go_enter Tryz.func98, Tryz.ntmps98
  go_wp2_with (at_make; refine wpList_make_full _ rfl (.tmp 16) _ 32 rfl w.heap.size 3 i0 (.int .i64 0) 1 Tryz.underlying32 hi hz0 hz1 .i64 .i64 _ _ (K + 1) rfl rfl (by omega) (by omega) (by rw [hz2]; omega) (by unfold maxLen; omega) (by omega) ?_; intro w1 hown hgr)
  have hrow := Row.made hown
  have hbel := below_made hgr
  have hsz := hgr.size
  clear hown hgr
  go_loopw [20, 9] (fun i _ wr => ∃ k : Nat, k ≤ n ∧ i = .int .i64 k ∧ (∃ st, Row wr w.heap.size 3 (K + 1) (IN st) ∧ Hid (st 0 = 0) ∧ Hid (∀ x, st (x + 1) = cnt c x k)) ∧ Below w.heap.size w wr) (fun i _ _ => n - (intOf i).toNat)
  case atStart => exact ⟨0, Nat.zero_le _, rfl, ⟨fun _ => 0, hrow, rfl, fun x => rfl⟩, hbel⟩
  case round =>
    obtain ⟨k, hk, rfl, ⟨st, hr, H0, H1⟩, hb⟩ := hrel
    by_cases hlt : k < n
    · have hcc := (hrc.below hb hclt).cell hlt
      have hck := hc k hlt
      have hcs := hr.cell (show c k + 1 < K + 1 by omega)
      have hfz := hr.free (c k + 1)
      rw [IN_at] at hcs hcc
      have hsb : st (c k + 1) ≤ n := by rw [H1.out]; have := cnt_le c (c k) k; omega
      go_wp2
      go_roundw
      case rel =>
        have R := starts_step H0.out H1.out
        exact ⟨k + 1, by omega, by go_num, ⟨_, hr.setN (c k + 1) (st (c k + 1) + 1), R.1, R.2⟩, hb.setCell (Nat.le_refl _) _⟩
      case measure => simp [intOf]; omega
    · have hkn : k = n := by omega
      subst hkn
      have H2 : Hid (∀ x, x ≤ 0 → st x = less c x k) := fun x hx => by rw [show x = 0 from by omega, less_zero]; exact H0.out
      clear H0 hrow hbel hk hlt
      go_wp2_with fail
      go_loopw [33, 10] (fun i _ wr => ∃ m : Nat, m ≤ K ∧ i = .int .i64 m ∧ (∃ st, Row wr w.heap.size 3 (K + 1) (IN st) ∧ Hid (∀ x, x ≤ m → st x = less c x k) ∧ Hid (∀ x, m ≤ x → st (x + 1) = cnt c x k)) ∧ Below w.heap.size w wr) (fun i _ _ => K - (intOf i).toNat)
      case atStart => exact ⟨0, Nat.zero_le _, rfl, ⟨st, hr, H2, fun x _ => H1.out x⟩, hb⟩
      case round =>
        clear hr hb H1 H2
        obtain ⟨m, hm, rfl, ⟨st, hr, H1, H2⟩, hb⟩ := hrel
        by_cases hlt : m < K
        · have hcs := hr.cell (show m < K + 1 by omega)
          have hcs1 := hr.cell (show m + 1 < K + 1 by omega)
          have hfz := hr.free (m + 1)
          rw [IN_at] at hcs hcs1
          have hsb : st m ≤ k := by rw [H1.out m (Nat.le_refl _)]; exact less_le _ _ _
          have hsb1 : st (m + 1) ≤ k := by rw [H2.out m (Nat.le_refl _)]; exact cnt_le _ _ _
          go_wp2
          go_region
          all_goals go_wp2
          all_goals go_roundw
          case rel =>
            have R := sums_step H1.out H2.out
            exact ⟨m + 1, by omega, by go_num, ⟨_, hr.drew.setN (m + 1) (st (m + 1) + st m), R.1, R.2⟩, hb.drew.setCell (Nat.le_refl _) _⟩
          case measure => simp [intOf]; omega
        · have hkm : m = K := by omega
          subst hkm
          have hsz1 := hb.size
          go_wp2_with (at_make; refine wpList_make_full _ rfl (.tmp 49) _ 32 rfl wr.heap.size 3 i0 (.int .i64 0) 1 Tryz.underlying32 hi hz0 hz1 .i64 .i64 _ _ k rfl rfl (by omega) (by omega) (by rw [hz2]; omega) (by unfold maxLen; omega) (by omega) ?_; intro w2 hown hgr)
          have hrow := Row.made hown
          have hb2 := hb.grown hgr hsz1 (fun _ h => by cases h)
          have hr2 := hr.grown hgr (by simp)
          have hg2 : w.heap.size < wr.heap.size := hr.lt
          obtain ⟨G, hG⟩ : ∃ G, G = wr.heap.size := ⟨_, rfl⟩
          rw [← hG] at hrow hg2 ⊢
          clear hown hgr hr hb H2 hsz1 hG
          have H3 : Hid (∀ x, x < m → st x = less (fun i => c (p i)) x k + cnt (fun i => c (p i)) x 0) := fun x hx => by rw [HP.out, H1.out x (by omega)]; rfl
          clear H1
          go_loopw [53, 13, 14] (fun i _ _ wr => ∃ q : Nat, q ≤ k ∧ i = .int .i64 q ∧ (∃ st s, Row wr w.heap.size 3 (m + 1) (IN st) ∧ Row wr G 3 k (IN s) ∧ Hid (∀ x, x < m → st x = less (fun i => c (p i)) x k + cnt (fun i => c (p i)) x q) ∧ Hid (∀ i, i < q → s (rk (fun i => c (p i)) k i) = p i)) ∧ Below w.heap.size w wr) (fun i _ _ _ => k - (intOf i).toNat)
          case atStart => exact ⟨0, Nat.zero_le _, rfl, ⟨st, fun _ => 0, hr2, hrow, H3, fun i hi => by omega⟩, hb2⟩
          case round =>
            clear hr2 hrow H3 hb2
            obtain ⟨q, hq, rfl, ⟨st, s, hr, hs, H1, H2⟩, hb⟩ := hrel
            by_cases hlt : q < k
            · have R := place_step (p := p) (s := s) hlt H1.out (hc (p q) (hp q hlt)) H2.out
              have hpq := hp q hlt
              have hcq := hc (p q) hpq
              have hc1 := (hrp.below hb hplt).cell hlt
              have hc2 := (hrc.below hb hclt).cell hpq
              have hc3 := hr.cell (show c (p q) < m + 1 by omega)
              have hfz3 := hr.free (c (p q))
              have hstq : st (c (p q)) < k := by rw [R.1]; exact rk_lt _ _ _ hlt
              have hc4 := hs.cell hstq
              have hfz4 := hs.free (st (c (p q)))
              rw [IN_at] at hc1 hc2 hc3 hc4
              have R2 : Hid _ := R.2
              clear R
              go_wp2
              go_roundw
              case rel => 
                exact ⟨q + 1, by omega, by go_num, ⟨_, _, (hr.setOther (by simp; omega) _).setN (c (p q)) (st (c (p q)) + 1), (hs.setN (st (c (p q))) (p q)).setOther (by simp; omega) _, R2.out.1, R2.out.2⟩, (hb.setCell (by simp; omega) _).setCell (Nat.le_refl _) _⟩
              case measure => simp [intOf]; omega
            · have hqk : q = k := by omega
              subst hqk
              go_wp2
              go_ret
              exact ⟨s, ⟨_, _, rfl, by omega, by unfold maxLen; omega, by omega, hs, hb⟩, H2.out⟩


/-- What stands at the head of a round of the sort, with no spare room. -/
structure SortInvC (s : ByteArray) (w wr : World) (vc vo vk vw : Value) (h kinds : Nat) : Prop where
  ex : ∃ go capo gc capc o c, vo = .slice (some ⟨go, 0, none⟩) (s.size + 1) capo ∧ vc = .slice (some ⟨gc, 0, none⟩) (s.size + 1) capc ∧ vk = .int .i64 (kinds : Int) ∧ vw = .int .i64 (h : Int) ∧ Row wr go 3 (s.size + 1) (IN o) ∧ Row wr gc 3 (s.size + 1) (IN c) ∧
    w.heap.size ≤ go ∧ capo ≤ s.size + 1 ∧ capo ≤ maxLen ∧ St (s.size + 1) (ringAt s) h o c kinds
  bel : Below w.heap.size w wr
  one : 1 ≤ h
  two : h < 2 * (s.size + 1)

set_option maxRecDepth 10000 in
set_option maxHeartbeats 1000000 in
theorem sortC_any (s : ByteArray) (w : World) (hn : s.size ≤ 2000) :
    Calls Tryz.prog 65 #[.string s] w fun e w' => ∃ f, NewC w w' e (s.size + 1) f ∧ IsSA (tx s) f := by
  have HE : Hid (ringAt s (s.size + 1 - 1) = 0) := ringAt_end s _ (by omega)
  have HP : Hid (∀ i, i < s.size + 1 - 1 → 0 < ringAt s i) := fun i hi => by rw [ringAt_lt s i (by omega)]; omega
  have HB : Hid (∀ i, i < s.size + 1 → ringAt s i < 257) := fun i _ => by
    unfold ringAt; split
    · next h => have := (s[i]).toNat_lt; omega
    · omega
  have ec : ((s.size : Int) + 1) = ((s.size + 1 : Nat) : Int) := by omega
  have EC := show Hid _ from ec
  clear ec
  go_enter Tryz.func65, Tryz.ntmps65
  go_wp2_with fail
  refine (classesOfBytes_any s _ hn).mono ?_
  rintro e w1 ⟨gc, capc, rfl, hcc1, hcc2, hgc, hrc, hb1⟩
  go_wp2_with fail
  rw [EC.out]
  refine (allPlaces_any (s.size + 1) _ (by omega)).mono ?_
  rintro e w2 ⟨gp, capp, rfl, hcp1, hcp2, hgp, hrp, hb2⟩
  have hclt := hrc.lt
  have hrc2 := hrc.below hb2 hclt
  go_wp2_with fail
  refine (sortByClassC_any gp (s.size + 1) capp gc capc 257 (fun j => j) (ringAt s) _ (by omega) (by omega) hrp hrc2 (fun j hj => hj) HB.out (fun x => rfl)).mono ?_
  rintro e w3 ⟨o, ⟨go, capo, rfl, hco1, hco2, hgo, hro, hb3⟩, hos⟩
  have hrc3 := hrc2.below hb3 hrc2.lt
  have O1 : Hid (∀ i, i < s.size + 1 → o i < s.size + 1) := (Ord.init (r := ringAt s) (by omega) hos).lt
  have O2 : Hid (∀ i j, i < s.size + 1 → j < s.size + 1 → o i = o j → i = j) := (Ord.init (r := ringAt s) (by omega) hos).inj
  go_wp2_with fail
  refine (joinClasses_any go (s.size + 1) capo gc capc 0 o (ringAt s) _ (by omega) (by omega) hro hrc3 O1.out O2.out (by omega)).mono ?_
  rintro e w4 ⟨gf, capf, f, rfl, hgf, hrf, hb4, hff⟩
  have T0 : St (s.size + 1) (ringAt s) 1 o f (jd (fun a b => halvesB (s.size + 1) (ringAt s) a b 0) o (s.size + 1 - 1) + 1) := St.init (by omega) HE.out HP.out hos hff
  have hz1 := hb1.size
  have hz2 := hb2.size
  have hz3 := hb3.size
  have I0 : SortInvC s w w4 (.slice (some ⟨gf, 0, none⟩) (s.size + 1) capf) (.slice (some ⟨go, 0, none⟩) (s.size + 1) capo) (.int .i64 ((jd (fun a b => halvesB (s.size + 1) (ringAt s) a b 0) o (s.size + 1 - 1) + 1 : Nat) : Int)) (.int .i64 ((1 : Nat) : Int)) 1 (jd (fun a b => halvesB (s.size + 1) (ringAt s) a b 0) o (s.size + 1 - 1) + 1) :=
    ⟨⟨go, capo, gf, capf, o, f, rfl, rfl, rfl, rfl, hro.below hb4 hro.lt, hrf, by omega, hco1, hco2, T0⟩, hb1.trans ((hb2.mono hz1).trans ((hb3.mono (by omega)).trans (hb4.mono (by omega)))), by omega, by omega⟩
  clear T0 hff hrf hro hos hrc3 hrc2 hrc hrp hb1 hb2 hb3 hb4 O1 O2
  generalize jd (fun a b => halvesB (s.size + 1) (ringAt s) a b 0) o (s.size + 1 - 1) + 1 = K0 at *
  go_wp2_with fail
  go_loopw [3, 4, 5, 6] (fun vc vo vk vw wr => ∃ h kinds, SortInvC s w wr vc vo vk vw h kinds) (fun _ _ _ vw _ => 2 * (s.size + 1) - (intOf vw).toNat)
  case atStart => exact ⟨1, K0, I0⟩
  case round =>
    clear I0
    obtain ⟨h, kinds, ⟨go, capo, gc, capc, o, c, rfl, rfl, rfl, rfl, hro, hrc, hgo, hco1, hco2, T⟩, hb, h1, h2⟩ := hrel
    have HT : Hid (St (s.size + 1) (ringAt s) h o c kinds) := T
    clear T
    have hkl := HT.out.kinds_le
    by_cases hlt : kinds < s.size + 1
    · have hhN := HT.out.more hlt
      have hclt := hrc.lt
      have hsz := hb.size
      go_wp2_with fail
      refine (stepBack_any go (s.size + 1) capo h o _ (by omega) (by omega) hro HT.out.ord.lt (by omega)).mono ?_
      rintro e w5 ⟨gp, capp, rfl, hcp1, hcp2, hgp, hrp, hb5⟩
      have hrc5 := hrc.below hb5 hclt
      go_wp2_with fail
      refine (sortByClassC_any gp (s.size + 1) capp gc capc kinds (fun j => backBy (s.size + 1) h (o j)) c _ (by omega) (by omega) hrp hrc5 (fun j hj => Nat.mod_lt _ (by omega)) HT.out.below (HT.out.perm (by omega) (by omega))).mono ?_
      rintro e w6 ⟨o2, ⟨go2, capo2, rfl, hcq1, hcq2, hgq, hrq, hb6⟩, hos⟩
      have hrc6 := hrc5.below hb6 hrc5.lt
      have O := HT.out.stepOrd (by omega) hlt hos
      have O1 : Hid (∀ i, i < s.size + 1 → o2 i < s.size + 1) := O.lt
      have O2 : Hid (∀ i j, i < s.size + 1 → j < s.size + 1 → o2 i = o2 j → i = j) := O.inj
      clear O
      go_wp2_with fail
      refine (joinClasses_any go2 (s.size + 1) capo2 gc capc h o2 c _ (by omega) (by omega) hrq hrc6 O1.out O2.out (by omega)).mono ?_
      rintro e w7 ⟨gf, capf, f, rfl, hgf, hrf, hb7, hff⟩
      have T1 := HT.out.step (by omega) HE.out HP.out hlt hos hff
      have hz5 := hb5.size
      have hz6 := hb6.size
      have I1 : SortInvC s w w7 (.slice (some ⟨gf, 0, none⟩) (s.size + 1) capf) (.slice (some ⟨go2, 0, none⟩) (s.size + 1) capo2) (.int .i64 ((jd (fun a b => halvesB (s.size + 1) c a b h) o2 (s.size + 1 - 1) + 1 : Nat) : Int)) (.int .i64 ((h + h : Nat) : Int)) (h + h) (jd (fun a b => halvesB (s.size + 1) c a b h) o2 (s.size + 1 - 1) + 1) :=
        ⟨⟨go2, capo2, gf, capf, o2, f, rfl, rfl, rfl, rfl, hrq.below hb7 hrq.lt, hrf, by omega, hcq1, hcq2, T1⟩, hb.trans ((hb5.mono hsz).trans ((hb6.mono (by omega)).trans (hb7.mono (by omega)))), by omega, by omega⟩
      clear T1 hff hrf hro hos hrc6 hrc5 hrc hrp hb5 hb6 hb7 O1 O2 hrq
      generalize jd (fun a b => halvesB (s.size + 1) c a b h) o2 (s.size + 1 - 1) + 1 = K1 at *
      go_wp2
      go_roundw
      case rel => 
        refine ⟨h + h, K1, ?_⟩
        rw [show (h : Int) * 2 = ((h + h : Nat) : Int) from by omega]
        exact I1
      case measure => simp [intOf]; omega
    · go_wp2
      go_ret
      refine ⟨o, ⟨_, _, rfl, hco1, hco2, hgo, hro, hb⟩, ?_⟩
      have T := HT.out
      rw [ringAt_tx, ← tx_length s] at T
      exact T.sa (by rw [tx_length]; omega)
end Go.Proofs.YtkebgnpifmcmaabGreat

namespace Go.Proofs.YtkebgnpifmcmaabGreat
open Go.RowKit

/-- A list's block: its first q cells are marks. -/
def LQ (w : World) (g n cap : Nat) (c : Int) (q : Nat) : Prop := ∃ cur : Array Value, w.heap[g]? = some (.cells cur 3 (0, 0)) ∧ n ≤ cur.size ∧ cap ≤ cur.size ∧ q ≤ cur.size ∧ ∀ j, j < q → cur[j]? = some (.int .i64 c)
theorem LQ.row {w : World} {g n cap q : Nat} {c : Int} (h : LQ w g n cap c q) {k : Nat} (hk : k ≤ q) : Row w g 3 k (II fun _ => c) := by
  obtain ⟨cur, h1, h2, h3, h4, h5⟩ := h
  exact ⟨cur, h1, by omega, fun j hj => h5 j (by omega)⟩
/-- What came of an append to it: in the same block, or in a new one. -/
def MV (w : World) (v : Value) (k : Nat) (c : Int) (g cap q low : Nat) : Prop := (v = .slice (some ⟨g, 0, none⟩) k cap ∧ k ≤ q) ∨ ∃ b cp, v = .slice (some ⟨b, 0, none⟩) k cp ∧ low ≤ b ∧ b ≠ g ∧ Row w b 3 k (II fun _ => c)
theorem MV.lst {w : World} {v : Value} {k : Nat} {c : Int} {g n cap q low : Nat} (h : MV w v k c g cap q low) (hq : LQ w g n cap c q) : Lst w v k (II fun _ => c) := by
  rcases h with ⟨rfl, hk⟩ | ⟨b, cp, rfl, _, _, hr⟩
  · exact ⟨_, _, rfl, fun _ => ⟨g, rfl, hq.row hk⟩⟩
  · exact ⟨_, _, rfl, fun _ => ⟨b, rfl, hr⟩⟩
theorem MV.next {w w' : World} {v : Value} {k : Nat} {c : Int} {g cap q q' low : Nat} (h : MV w v k c g cap q low) (hg : w.grownBy w' (some g)) (hq : q ≤ q') : MV w' v k c g cap q' low := by
  rcases h with ⟨rfl, hk⟩ | ⟨b, cp, rfl, h1, h2, hr⟩
  · exact .inl ⟨rfl, by omega⟩
  · exact .inr ⟨b, cp, rfl, h1, h2, hr.grown hg (by simpa using h2)⟩
theorem MV.block {w : World} {v : Value} {k : Nat} {c : Int} {g cap q low : Nat} (h : MV w v k c g cap q low) : v.ownBlock = some g ∨ ∃ b, v.ownBlock = some b ∧ low ≤ b := by
  rcases h with ⟨rfl, _⟩ | ⟨b, cp, rfl, h1, _, _⟩
  · exact .inl rfl
  · exact .inr ⟨b, rfl, h1⟩
theorem MV.low {w : World} {v : Value} {k : Nat} {c : Int} {g cap q low low' : Nat} (h : MV w v k c g cap q low) (hl : low' ≤ low) : MV w v k c g cap q low' := by
  rcases h with h | ⟨b, cp, h1, h2, h3, hr⟩
  · exact .inl h
  · exact .inr ⟨b, cp, h1, by omega, h3, hr⟩
theorem LQ.grown {w w' : World} {g n cap q : Nat} {c : Int} (h : LQ w g n cap c q) (hg : w.grownBy w' none) : LQ w' g n cap c q := by
  obtain ⟨cur, h1, rest⟩ := h
  exact ⟨cur, by rw [hg.block g (Array.getElem?_eq_some_iff.1 h1).1 (by simp)]; exact h1, rest⟩
theorem grown_any {w w' : World} {x : Option Nat} (h : w.grownBy w' none) : w.grownBy w' x := ⟨h.os, h.tape, h.output, h.size, fun k hk _ => h.block k hk (by simp)⟩

/-- Marks appended to it. -/
theorem wpList_append_mark {ops : Array Oper} {rest : List Oper} {o : Oper} {a : Act} {Q : Exit → Act → World → Prop} (w : World)
    (hgd : o.guard = none) (s x : Operand) (hop : o.op = Op.call { callee := Callee.builtin Builtin.append, args := #[s, x], argTypes := #[32, 32] })
    (g n cap q m c0 : Nat) (c : Int) (hs : a.eval s = .slice (some ⟨g, 0, none⟩) n cap) (hq : LQ w g n cap c q) (hnq : n ≤ q) (ad : Addr) (hx : a.eval x = .slice (some ad) m c0)
    (hnews : ∀ j, j < m → w.cell? (ad.add j) = some (.int .i64 c)) (hm : n + m ≤ 5000)
    (h : ∀ v' w' q', q ≤ q' → LQ w' g n cap c q' → w.grownBy w' (some g) → MV w' v' (n + m) c g cap q' w.heap.size → wpList Tryz.prog ops Q rest (a.put o.dst v') w') : wpList Tryz.prog ops Q (o :: rest) a w := by
  obtain ⟨i0, hi, hz0, hz1, hz2⟩ := info_parts Tryz.info3
  have hnl : (List.replicate m (Value.int .i64 c)).length = m * i0.size := by rw [List.length_replicate, hz1, Nat.mul_one]
  have hnc : ∀ j u, (List.replicate m (Value.int .i64 c))[j]? = some u → w.cell? (ad.add j) = some u := fun j u hj => by
    rw [List.getElem?_replicate] at hj
    split at hj
    · next hlt => cases hj; exact hnews j hlt
    · cases hj
  have h1c : ∀ u ∈ List.replicate m (Value.int .i64 c), u.oneCell' = true := fun u hu => by rw [List.eq_of_mem_replicate hu]; rfl
  have hq0 := hq
  obtain ⟨cur, g1, g2, g3, g4, g5⟩ := hq
  have hglt : g < w.heap.size := (Array.getElem?_eq_some_iff.1 g1).1
  refine wpList_plain hgd fun K hK' => ?_
  by_cases hr : n + m ≤ cap
  · have hrun := run_append_room (P := Tryz.prog) w 32 o.type 3 i0 Tryz.underlying32 hi g n cap cur g1 ad m c0 _ hnl hnc h1c hr (by rw [hnl, hz1]; omega)
    rw [hz1, Nat.mul_one, List.length_replicate] at hrun
    unfold Oper.wp
    simp [execOp, hop, resolve, invoke, builtin, hs, hx, hrun, Result.andThen]
    refine hK' _ _ (h _ _ (max q (n + m)) (by omega) ?_ ?_ (.inl ⟨rfl, by omega⟩))
    · have hlen : (cur.toList.take n ++ (List.replicate m (Value.int .i64 c) ++ cur.toList.drop (n + m))).toArray.size = cur.size := by
        simp only [List.size_toArray, List.length_append, List.length_take, List.length_replicate, List.length_drop, Array.length_toList]; omega
      have hcell : ∀ j, j < max q (n + m) → (cur.toList.take n ++ (List.replicate m (Value.int .i64 c) ++ cur.toList.drop (n + m))).toArray[j]? = some (.int .i64 c) := fun j hj => by
        rw [List.getElem?_toArray]
        by_cases h1 : j < n
        · rw [List.getElem?_append_left (by rw [List.length_take, Array.length_toList]; omega), List.getElem?_take, if_pos h1, Array.getElem?_toList]
          exact g5 j (by omega)
        · have htl : (cur.toList.take n).length = n := by rw [List.length_take, Array.length_toList]; omega
          rw [List.getElem?_append_right (by omega), htl]
          by_cases h2 : j < n + m
          · rw [List.getElem?_append_left (by rw [List.length_replicate]; omega), List.getElem?_replicate, if_pos (by omega)]
          · rw [List.getElem?_append_right (by rw [List.length_replicate]; omega), List.length_replicate, List.getElem?_drop, show n + m + (j - n - m) = j from by omega, Array.getElem?_toList]
            exact g5 j (by omega)
      exact ⟨_, setRow_heap w g _ _ _ _ g1, by rw [hlen]; omega, by rw [hlen]; omega, by rw [hlen]; omega, hcell⟩
    · exact ⟨rfl, rfl, rfl, by simp, fun k _ hne => setRow_other w g k _ (fun e => hne (by rw [e]))⟩
  · obtain ⟨v', w', hrun, r1, r2⟩ := run_append_arg_grows (P := Tryz.prog) w 32 o.type 3 i0 (.int .i64 0) 1 8 Tryz.underlying32 hi hz0 hz1 hz2 rfl (by decide) ⟨g, 0, none⟩ n cap (List.replicate n (.int .i64 c)) (by rw [List.length_replicate, Nat.mul_one]) (fun j u hj => by
      rw [List.getElem?_replicate] at hj
      split at hj
      · next hlt =>
        cases hj
        rw [Addr.add_lit, Nat.zero_add, cell_of_row w g j _ _ _ g1]
        exact g5 j (by omega)
      · cases hj) ad m c0 _ (by rw [List.length_replicate, Nat.mul_one]) hnc (by omega) (by unfold maxLen; omega) (by omega)
    unfold Oper.wp
    simp [execOp, hop, resolve, invoke, builtin, hs, hx, hrun, Result.andThen]
    refine hK' _ _ (h v' w' q (Nat.le_refl _) (hq0.grown r2) (grown_any r2) ?_)
    rcases r1.2 with ⟨_, h0⟩ | ⟨b, cp, cur', rfl, hb, hh⟩
    · omega
    · refine .inr ⟨b, cp, rfl, hb, by omega, ?_⟩
      exact Row.owned r1 (fun j hj => by rw [List.replicate_append_replicate, List.getElem?_replicate, if_pos hj]; rfl)
end Go.Proofs.YtkebgnpifmcmaabGreat

namespace Go.Proofs.YtkebgnpifmcmaabGreat
open Go.RowKit

theorem Tryz.infoLI : (Tryz.prog.info? 32).map (fun i => (i.zero, i.size, i.bytes)) = some (some (.slice none 0 0), 1, 24) := by kernel_rfl
theorem cells4 (w : World) (T : TypeId) (a b c d : Value) : ∀ (j : Nat) (u : Value), [a, b, c, d][j]? = some u → (w.alloc (.cells #[a, b, c, d] T)).cell? ((⟨w.heap.size, 0, none⟩ : Addr).add j) = some u := by
  intro j u h
  have hk := Blk.new w T #[a, b, c, d]
  have h2 : (⟨w.heap.size, 0, none⟩ : Addr).add j = ⟨w.heap.size, j, none⟩ := by rw [Addr.add_lit, Nat.zero_add]
  rw [h2, hk.cell j]
  simpa using h
theorem cellsM (w : World) (m : Nat) (c : Int) (cs : Array Value) (hc : ∀ j, j < m → cs[j]? = some (.int .i64 c)) : ∀ j, j < m → (w.alloc (.cells cs 3)).cell? ((⟨w.heap.size, 0, none⟩ : Addr).add j) = some (.int .i64 c) := by
  intro j hj
  have h2 : (⟨w.heap.size, 0, none⟩ : Addr).add j = ⟨w.heap.size, j, none⟩ := by rw [Addr.add_lit, Nat.zero_add]
  rw [h2, (Blk.new w 3 cs).cell j]
  exact hc j hj
theorem size_alloc (w : World) (o : Obj) : (w.alloc o).heap.size = w.heap.size + 1 := by simp
/-- Rows of integers, but for one, are as they were. -/
def K3 (w w' : World) (x : Option Nat) : Prop := ∀ b cs, w.heap[b]? = some (.cells cs 3 (0, 0)) → some b ≠ x → w'.heap[b]? = some (.cells cs 3 (0, 0))
theorem K3.refl (w : World) (x : Option Nat) : K3 w w x := fun _ _ h _ => h
theorem K3.trans {a b c : World} {x : Option Nat} (h : K3 a b x) (h' : K3 b c x) : K3 a c x := fun k cs h1 h2 => h' k cs (h k cs h1 h2) h2
theorem K3.grown {w w' : World} {x : Option Nat} (h : w.grownBy w' x) : K3 w w' x := fun b cs h1 h2 => by rw [h.block b (Array.getElem?_eq_some_iff.1 h1).1 h2]; exact h1
theorem K3.any {w w' : World} {x : Option Nat} (h : K3 w w' none) : K3 w w' x := fun b cs h1 _ => h b cs h1 (by simp)
theorem K3.lst {w w' : World} {x : Option Nat} {v : Value} {k : Nat} {F : Nat → Value} (h : K3 w w' x) (hl : Lst w v k F) (hne : v.ownBlock = none ∨ v.ownBlock ≠ x) : Lst w' v k F := by
  obtain ⟨ao, cp, rfl, hr⟩ := hl
  refine ⟨ao, cp, rfl, fun hk => ?_⟩
  obtain ⟨g, rfl, cur, h1, h2⟩ := hr hk
  rcases hne with hne | hne
  · cases hne
  · exact ⟨g, rfl, cur, h g cur h1 hne, h2⟩

/-- The book. -/
def Bk (w : World) (B gM : Nat) (Vs : List Value) : Prop := ∃ vL, Blk w gM 44 #[vL] ∧ w.ownsRow B 32 1 vL Vs.length Vs ∧ ∀ i, i < Vs.length → ∃ k, k ≤ 3010 ∧ Lst w (Vs.getD i undef) k (II fun _ => ((1000000 + i / 4 : Nat) : Int))
theorem Bk.below {w w' : World} {B gM : Nat} {Vs : List Value} (h : Bk w B gM Vs) (hb : Below w.heap.size w w') : Bk w' B gM Vs := by
  obtain ⟨vL, h1, h2, h3⟩ := h
  exact ⟨vL, h1.below hb h1.lt, own_below3 h2 hb, fun i hi => by obtain ⟨k, hk, hl⟩ := h3 i hi; exact ⟨k, hk, hl.below hb⟩⟩

/-- The four lists of one list's owner. -/
theorem Bk.more {w w' : World} {B gM : Nat} {Vs : List Value} {x : Option Nat} {j : Nat} (hj : Vs.length = 4 * j) (h3 : ∀ i, i < Vs.length → ∃ k, k ≤ 3010 ∧ Lst w (Vs.getD i undef) k (II fun _ => ((1000000 + i / 4 : Nat) : Int))) (hk : K3 w w' x) (haw : ∀ V ∈ Vs, V.ownBlock = none ∨ V.ownBlock ≠ x)
    {v v1 v2 v3 vL : Value} (hM : Blk w' gM 44 #[vL]) (ho : w'.ownsRow B 32 1 vL (Vs.length + 4) (Vs ++ [v, v1, v2, v3]))
    {n : Nat} (hn : n ≤ 3000) (l0 : Lst w' v n (II fun _ => ((1000000 + j : Nat) : Int))) (l1 : Lst w' v1 (n + 1) (II fun _ => ((1000000 + j : Nat) : Int))) (l2 : Lst w' v2 (n + 2) (II fun _ => ((1000000 + j : Nat) : Int))) (l3 : Lst w' v3 (n + 3) (II fun _ => ((1000000 + j : Nat) : Int))) : Bk w' B gM (Vs ++ [v, v1, v2, v3]) := by
  refine ⟨vL, hM, by rw [List.length_append]; exact ho, fun i hi => ?_⟩
  by_cases hlt : i < Vs.length
  · obtain ⟨k, hk1, hl⟩ := h3 i hlt
    have e : (Vs ++ [v, v1, v2, v3]).getD i undef = Vs.getD i undef := by rw [List.getD_eq_getElem?_getD, List.getElem?_append_left hlt, List.getD_eq_getElem?_getD]
    have hmem : Vs.getD i undef ∈ Vs := by rw [List.getD_eq_getElem?_getD, List.getElem?_eq_getElem hlt]; exact List.getElem_mem hlt
    rw [e]
    exact ⟨k, hk1, hk.lst hl (haw _ hmem)⟩
  · rw [List.length_append] at hi
    simp only [List.length_cons, List.length_nil] at hi
    have e : (Vs ++ [v, v1, v2, v3]).getD i undef = [v, v1, v2, v3].getD (i - Vs.length) undef := by rw [List.getD_eq_getElem?_getD, List.getElem?_append_right (by omega), List.getD_eq_getElem?_getD]
    rw [e, show i / 4 = j from by omega]
    obtain h | h | h | h : i - Vs.length = 0 ∨ i - Vs.length = 1 ∨ i - Vs.length = 2 ∨ i - Vs.length = 3 := by omega
    · rw [h]; exact ⟨n, by omega, l0⟩
    · rw [h]; exact ⟨n + 1, by omega, l1⟩
    · rw [h]; exact ⟨n + 2, by omega, l2⟩
    · rw [h]; exact ⟨n + 3, by omega, l3⟩

theorem MV.shape {w : World} {v : Value} {k : Nat} {c : Int} {g cap q low : Nat} (h : MV w v k c g cap q low) : ∃ b cp, v = .slice (some ⟨b, 0, none⟩) k cp := by
  rcases h with ⟨rfl, _⟩ | ⟨b, cp, rfl, _, _, _⟩
  · exact ⟨_, _, rfl⟩
  · exact ⟨_, _, rfl⟩
theorem LQ.alloc {w : World} {g n cap q : Nat} {c : Int} (h : LQ w g n cap c q) (o : Obj) : LQ (w.alloc o) g n cap c q := h.grown (World.grownBy_alloc w o none)
theorem LQ.set {w : World} {g n cap q : Nat} {c : Int} (h : LQ w g n cap c q) (hq : q < n) : LQ (w.setCell ⟨g, q, none⟩ (.int .i64 c)) g n cap c (q + 1) := by
  obtain ⟨cur, h1, h2, h3, h4, h5⟩ := h
  refine ⟨cur.setIfInBounds q (.int .i64 c), heap_setCell_same w g q cur 3 _ h1, by simp; omega, by simp; omega, by simp; omega, fun j hj => ?_⟩
  rw [Array.getElem?_setIfInBounds]
  by_cases e : q = j
  · rw [if_pos e, if_pos (by omega)]
  · rw [if_neg e]; exact h5 j (by omega)
theorem K3.set {w w' : World} {g j : Nat} {u : Value} (h : K3 w w' (some g)) : K3 w (w'.setCell ⟨g, j, none⟩ u) (some g) := fun b cs h1 h2 => by
  rw [Below.heap_setCell w' ⟨g, j, none⟩ u b (fun e => h2 (by rw [e]))]
  exact h b cs h1 h2
theorem LQ.blk {w : World} {g n cap q : Nat} {c : Int} (h : LQ w g n cap c q) : Row w g 3 0 (fun _ => undef) := by
  obtain ⟨cur, h1, _⟩ := h
  exact ⟨cur, h1, Nat.zero_le _, fun j hj => by omega⟩

theorem Lst.lt {w : World} {b k cp m : Nat} {F : Nat → Value} (h : Lst w (.slice (some ⟨b, 0, none⟩) m cp) k F) (hk : 0 < k) : b < w.heap.size := by
  obtain ⟨ao, cp', hv, hr⟩ := h
  obtain ⟨g, hg, hrow⟩ := hr hk
  cases hv
  cases hg
  exact hrow.lt

set_option maxRecDepth 10000 in
set_option maxHeartbeats 4000000 in
theorem list_some {w0 w : World} {gM g n cap j : Nat} {Vs : List Value} (hb : Below w0.heap.size w0 w) (hBk : Bk w w0.heap.size gM Vs) (hj : Vs.length = 4 * j) (hj2 : j ≤ 10) (hgM : w0.heap.size ≤ gM) (hg : w0.heap.size ≤ g) (hn : n ≤ 3000)
    (hl : ∃ cur : Array Value, w.heap[g]? = some (.cells cur 3 (0, 0)) ∧ n ≤ cur.size ∧ cap ≤ cur.size) (haw : ∀ V ∈ Vs, V.ownBlock = none ∨ V.ownBlock ≠ some g) :
    Calls Tryz.prog 42 #[.pointer (some ⟨gM, 0, none⟩), .slice (some ⟨g, 0, none⟩) n cap] w fun e w' => e = .returned (.tuple #[]) ∧ (∃ V1 V2 V3, Bk w' w0.heap.size gM (Vs ++ [.slice (some ⟨g, 0, none⟩) n cap, V1, V2, V3]) ∧ (∀ V, V ∈ [V1, V2, V3] → V.ownBlock = some g ∨ ∃ b, V.ownBlock = some b ∧ w.heap.size ≤ b) ∧ ∀ V, V ∈ [V1, V2, V3] → ∀ b, V.ownBlock = some b → b < w'.heap.size) ∧ K3 w w' (some g) ∧ Below w0.heap.size w0 w' ∧ w.heap.size ≤ w'.heap.size := by
  obtain ⟨i1, hi1, hy0, hy1, hy2⟩ := info_parts Tryz.infoLI
  obtain ⟨vL, hM, ho, h3⟩ := hBk
  have H3 : Hid (∀ i, i < Vs.length → ∃ k, k ≤ 3010 ∧ Lst w (Vs.getD i undef) k (II fun _ => ((1000000 + i / 4 : Nat) : Int))) := h3
  have HAW : Hid (∀ V ∈ Vs, V.ownBlock = none ∨ V.ownBlock ≠ some g) := haw
  clear h3 haw
  obtain ⟨aoL, capL, rfl⟩ : ∃ aoL capL, vL = .slice aoL Vs.length capL := by
    rcases ho.2 with ⟨rfl, h0⟩ | ⟨g', cp, cur', rfl, _⟩
    · exact ⟨none, 0, by rw [h0]⟩
    · exact ⟨_, _, rfl⟩
  have hc0 : w.cell? ⟨gM, 0, none⟩ = some (.slice aoL Vs.length capL) := hM.cell 0
  have HJ : Hid (Vs.length = 4 * j) := hj
  have hgne : gM ≠ g := fun e => by
    obtain ⟨cur, h1, _⟩ := hl
    subst e
    unfold Blk at hM
    rw [hM] at h1
    cases h1
  have hdv : (Vs.length : Int) / 4 = (j : Int) := by omega
  have hNs : Vs.length ≤ 40 := by omega
  have q0 : LQ w g n cap ((1000000 + j : Nat) : Int) 0 := by
    obtain ⟨cur, h1, h2, h4⟩ := hl
    exact ⟨cur, h1, h2, h4, Nat.zero_le _, fun j hj => by omega⟩
  clear hl hj
  generalize hN : Vs.length = N at *
  have HLN : Hid (Vs.length = N) := hN
  clear hN
  go_enter Tryz.func42, Tryz.ntmps42
  go_wp2_with fail
  obtain ⟨C, hC⟩ : ∃ C : Int, C = 1000000 + (j : Int) := ⟨_, rfl⟩
  have HC : Hid (((1000000 + j : Nat) : Int) = C) := by show _ = C; rw [hC]; simp
  rw [HC.out] at q0
  rw [← hC]
  clear hC hc0
  go_loopw [5] (fun iv wr => ∃ i : Nat, i ≤ n ∧ iv = .int .i64 (i : Int) ∧ LQ wr g n cap C i ∧ K3 w wr (some g) ∧ Blk wr gM 44 #[.slice aoL N capL] ∧ wr.ownsRow w0.heap.size 32 1 (.slice aoL N capL) N Vs ∧ Below w0.heap.size w0 wr ∧ w.heap.size ≤ wr.heap.size) (fun iv _ => n - (intOf iv).toNat)
  case atStart => exact ⟨0, Nat.zero_le _, rfl, q0, K3.refl _ _, hM, ho, hb, Nat.le_refl _⟩
  case round =>
    clear q0 hM ho hb
    obtain ⟨i, hi, rfl, hq, hK, hM, ho, hb, hsz⟩ := hrel
    by_cases hlt : i < n
    · obtain ⟨u, hc1, hf1⟩ : ∃ u, wr.cell? ⟨g, i, none⟩ = some u ∧ wr.frozen? ⟨g, i, none⟩ = false := by
        obtain ⟨cur, h1, h2, _⟩ := hq
        exact ⟨cur[i]'(by omega), by rw [cell_of_row wr g i _ _ _ h1, Array.getElem?_eq_getElem (by omega)], frozen_of_row wr g i _ _ h1⟩
      have hne : some g ≠ (Value.slice aoL N capL).ownBlock := row_ne_own3 hq.blk ho (by decide)
      have hq2 := hq.set hlt
      have ho2 := own_setOther ho ⟨g, i, none⟩ (.int .i64 C) hne
      have hM2 := hM.setOther (a := ⟨g, i, none⟩) hgne (.int .i64 C)
      have hb2 : Below w0.heap.size w0 (wr.setCell ⟨g, i, none⟩ (.int .i64 C)) := hb.setCell hg _
      go_wp2
      go_roundw
      case rel => exact ⟨i + 1, by omega, by go_num, hq2, hK.set, hM2, ho2, hb2, by simpa using hsz⟩
      case measure => simp [intOf]; omega
    · obtain rfl : i = n := by omega
      have hbsz := hb.size
      have hneM : some gM ≠ some g := by simpa using hgne
      have hneL : (Value.slice aoL N capL).ownBlock = none ∨ (Value.slice aoL N capL).ownBlock ≠ some g := .inr (fun e => row_ne_own3 hq.blk ho (by decide) e.symm)
      go_wp2_with (first
        | (at_builtin; refine wpList_append_mark _ rfl (.tmp 26) (.tmp 28) rfl g i cap i 1 1 C rfl (hq.alloc _) (Nat.le_refl _) ⟨wr.heap.size, 0, none⟩ rfl (cellsM wr 1 C #[.int .i64 C] (fun j hj => by cases j <;> first | rfl | omega)) (by omega) ?_; intro v1 w1 q1 hq1 hQ1 hg1 hm1; obtain ⟨b1, p1, rfl⟩ := hm1.shape; have hM1 := (hM.alloc _).grown hg1 hneM; have ho1 := (ho.alloc _).kept hg1 hneL)
        | (at_builtin; refine wpList_append_mark _ rfl (.tmp 30) (.tmp 33) rfl g i cap q1 2 2 C rfl (hQ1.alloc _) hq1 ⟨w1.heap.size, 0, none⟩ rfl (cellsM w1 2 C #[.int .i64 C, .int .i64 C] (fun j hj => by rcases j with _ | _ | j <;> first | rfl | omega)) (by omega) ?_; intro v2 w2 q2 hq2 hQ2 hg2 hm2; obtain ⟨b2, p2, rfl⟩ := hm2.shape; have hM2 := (hM1.alloc _).grown hg2 hneM; have ho2 := (ho1.alloc _).kept hg2 hneL)
        | (at_builtin; refine wpList_append_mark _ rfl (.tmp 35) (.tmp 39) rfl g i cap q2 3 3 C rfl (hQ2.alloc _) (Nat.le_trans hq1 hq2) ⟨w2.heap.size, 0, none⟩ rfl (cellsM w2 3 C #[.int .i64 C, .int .i64 C, .int .i64 C] (fun j hj => by rcases j with _ | _ | _ | j <;> first | rfl | omega)) (by omega) ?_; intro v3 w3 q3 hq3 hQ3 hg3 hm3; obtain ⟨b3, p3, rfl⟩ := hm3.shape; have hM3 := (hM2.alloc _).grown hg3 hneM; have ho3 := (ho2.alloc _).kept hg3 hneL; have hcL : w3.cell? ⟨gM, 0, none⟩ = some (.slice aoL N capL) := hM3.cell 0)
        | (at_builtin; refine wpList_append_own _ rfl (.tmp 45) (.tmp 50) 42 rfl w0.heap.size 32 i1 (.slice none 0 0) 1 24 Tryz.underlying42 hi1 hy0 hy1 hy2 rfl (by decide) (.slice aoL N capL) N Vs rfl (ho3.alloc _) ⟨w3.heap.size, 0, none⟩ 4 4 [.slice (some ⟨g, 0, none⟩) i cap, .slice (some ⟨b1, 0, none⟩) (i + 1) p1, .slice (some ⟨b2, 0, none⟩) (i + 2) p2, .slice (some ⟨b3, 0, none⟩) (i + 3) p3] rfl rfl (cells4 w3 _ _ _ _ _) (by simp; exact ⟨rfl, rfl, rfl, rfl⟩) (by unfold maxLen; omega) (by omega) (by have z1 := hg1.size; have z2 := hg2.size; have z3 := hg3.size; simp at z1 z2 z3 ⊢; omega) ?_; intro vN w4 ho4 hg4 _; obtain ⟨gN, pN, rfl⟩ := own_form ho4 (by omega); have hne4 : some gM ≠ (Value.slice aoL N capL).ownBlock := blk_ne_own hM3 ho3 (by decide); have hM4 := (hM3.alloc (.cells #[.slice (some ⟨g, 0, none⟩) i cap, .slice (some ⟨b1, 0, none⟩) (i + 1) p1, .slice (some ⟨b2, 0, none⟩) (i + 2) p2, .slice (some ⟨b3, 0, none⟩) (i + 3) p3] 32)).grown hg4 hne4; have hc4 : w4.cell? ⟨gM, 0, none⟩ = some (.slice aoL N capL) := hM4.cell 0; have hf4 := hM4.free 0))
      have hQA : LQ (w3.alloc (.cells #[.slice (some ⟨g, 0, none⟩) i cap, .slice (some ⟨b1, 0, none⟩) (i + 1) p1, .slice (some ⟨b2, 0, none⟩) (i + 2) p2, .slice (some ⟨b3, 0, none⟩) (i + 3) p3] 32)) g i cap C q3 := hQ3.alloc _
      have hneg4 : some g ≠ (Value.slice aoL N capL).ownBlock := row_ne_own3 hQ3.blk ho3 (by decide)
      have hQ4 : LQ w4 g i cap C q3 := by
        obtain ⟨cur, h1, rest⟩ := hQA
        exact ⟨cur, by rw [hg4.block g (Array.getElem?_eq_some_iff.1 h1).1 hneg4]; exact h1, rest⟩
      have hm1' := ((hm1.next (World.grownBy_alloc w1 (.cells #[.int .i64 C, .int .i64 C] 3) (some g)) (Nat.le_refl _)).next hg2 hq2)
      have hm1'' := (hm1'.next (World.grownBy_alloc w2 (.cells #[.int .i64 C, .int .i64 C, .int .i64 C] 3) (some g)) (Nat.le_refl _)).next hg3 hq3
      have hm2' := (hm2.next (World.grownBy_alloc w2 (.cells #[.int .i64 C, .int .i64 C, .int .i64 C] 3) (some g)) (Nat.le_refl _)).next hg3 hq3
      have z1 := hg1.size
      have z2 := hg2.size
      have z3 := hg3.size
      have z4 := hg4.size
      rw [size_alloc] at z1 z2 z3 z4
      have HP4 : Hid (K3 w3 (w4.setCell ⟨gM, 0, none⟩ (.slice (some ⟨gN, 0, none⟩) (N + 4) pN)) none) := fun b cs h1 _ => by
        have hb1 : Blk w3 b 3 cs := h1
        have hb2 := (hb1.alloc (.cells #[.slice (some ⟨g, 0, none⟩) i cap, .slice (some ⟨b1, 0, none⟩) (i + 1) p1, .slice (some ⟨b2, 0, none⟩) (i + 2) p2, .slice (some ⟨b3, 0, none⟩) (i + 3) p3] 32)).grown hg4 (blk_ne_own hb1 ho3 (by decide))
        exact hb2.setOther (fun e => by
          have e' : b = gM := e
          subst e'
          unfold Blk at hM3
          rw [hM3] at h1
          cases h1) _
      have HKF : Hid (K3 w (w4.setCell ⟨gM, 0, none⟩ (.slice (some ⟨gN, 0, none⟩) (N + 4) pN)) (some g)) := ((((hK.trans (K3.grown (World.grownBy_alloc wr (.cells #[.int .i64 C] 3) (some g)))).trans (K3.grown hg1)).trans ((K3.grown (World.grownBy_alloc w1 (.cells #[.int .i64 C, .int .i64 C] 3) (some g))).trans (K3.grown hg2))).trans ((K3.grown (World.grownBy_alloc w2 (.cells #[.int .i64 C, .int .i64 C, .int .i64 C] 3) (some g))).trans (K3.grown hg3))).trans HP4.out.any
      have l0 : Lst w3 (.slice (some ⟨g, 0, none⟩) i cap) i (II fun _ => C) := ⟨_, _, rfl, fun _ => ⟨g, rfl, hQ3.row (by omega)⟩⟩
      have L0 : Hid _ := HP4.out.lst l0 (.inr (by simp [Value.ownBlock]))
      have L1 : Hid _ := HP4.out.lst (hm1''.lst hQ3) (.inr (by simp [Value.ownBlock]))
      have L2 : Hid _ := HP4.out.lst (hm2'.lst hQ3) (.inr (by simp [Value.ownBlock]))
      have L3 : Hid _ := HP4.out.lst (hm3.lst hQ3) (.inr (by simp [Value.ownBlock]))
      have hneN : some gM ≠ (Value.slice (some ⟨gN, 0, none⟩) (N + 4) pN).ownBlock := blk_ne_own hM4 ho4 (by decide)
      have HOF : Hid _ := own_setOther ho4 ⟨gM, 0, none⟩ (.slice (some ⟨gN, 0, none⟩) (N + 4) pN) hneN
      have HMF : Hid (Blk (w4.setCell ⟨gM, 0, none⟩ (.slice (some ⟨gN, 0, none⟩) (N + 4) pN)) gM 44 #[.slice (some ⟨gN, 0, none⟩) (N + 4) pN]) := hM4.set 0 _
      have HBF : Hid (Below w0.heap.size w0 (w4.setCell ⟨gM, 0, none⟩ (.slice (some ⟨gN, 0, none⟩) (N + 4) pN))) := by
        have y1 := (hb.alloc hbsz (.cells #[.int .i64 C] 3)).grown hg1 (by rw [size_alloc]; omega) (fun k hk => by cases hk; exact hg)
        have y2 := (y1.alloc (by omega) (.cells #[.int .i64 C, .int .i64 C] 3)).grown hg2 (by rw [size_alloc]; omega) (fun k hk => by cases hk; exact hg)
        have y3 := (y2.alloc (by omega) (.cells #[.int .i64 C, .int .i64 C, .int .i64 C] 3)).grown hg3 (by rw [size_alloc]; omega) (fun k hk => by cases hk; exact hg)
        have y4 := (y3.alloc (by omega) (.cells #[.slice (some ⟨g, 0, none⟩) i cap, .slice (some ⟨b1, 0, none⟩) (i + 1) p1, .slice (some ⟨b2, 0, none⟩) (i + 2) p2, .slice (some ⟨b3, 0, none⟩) (i + 3) p3] 32)).grown hg4 (by rw [size_alloc]; omega) (fun k hk => (ho3.lt k hk).1)
        exact y4.setCell hgM _
      have HBL : Hid (∀ V, V ∈ [Value.slice (some ⟨b1, 0, none⟩) (i + 1) p1, .slice (some ⟨b2, 0, none⟩) (i + 2) p2, .slice (some ⟨b3, 0, none⟩) (i + 3) p3] → V.ownBlock = some g ∨ ∃ b, V.ownBlock = some b ∧ w.heap.size ≤ b) := fun V hV => by
        simp only [List.mem_cons, List.not_mem_nil, or_false] at hV
        rcases hV with rfl | rfl | rfl
        · rcases hm1.block with h | ⟨b, h, hb'⟩
          · exact .inl h
          · exact .inr ⟨b, h, by rw [size_alloc] at hb'; omega⟩
        · rcases hm2.block with h | ⟨b, h, hb'⟩
          · exact .inl h
          · exact .inr ⟨b, h, by rw [size_alloc] at hb'; omega⟩
        · rcases hm3.block with h | ⟨b, h, hb'⟩
          · exact .inl h
          · exact .inr ⟨b, h, by rw [size_alloc] at hb'; omega⟩
      have HBK : Hid (Bk (w4.setCell ⟨gM, 0, none⟩ (.slice (some ⟨gN, 0, none⟩) (N + 4) pN)) w0.heap.size gM (Vs ++ [.slice (some ⟨g, 0, none⟩) i cap, .slice (some ⟨b1, 0, none⟩) (i + 1) p1, .slice (some ⟨b2, 0, none⟩) (i + 2) p2, .slice (some ⟨b3, 0, none⟩) (i + 3) p3])) := by
        refine Bk.more (w := w) (x := some g) (j := j) (n := i) (by rw [HLN.out]; exact HJ.out) (by rw [HLN.out]; exact H3.out) HKF.out HAW.out HMF.out (by rw [HLN.out]; exact HOF.out) hn ?_ ?_ ?_ ?_
        · rw [HC.out]; exact L0.out
        · rw [HC.out]; exact L1.out
        · rw [HC.out]; exact L2.out
        · rw [HC.out]; exact L3.out
      have HUB : Hid (∀ V, V ∈ [Value.slice (some ⟨b1, 0, none⟩) (i + 1) p1, .slice (some ⟨b2, 0, none⟩) (i + 2) p2, .slice (some ⟨b3, 0, none⟩) (i + 3) p3] → ∀ b, V.ownBlock = some b → b < (w4.setCell ⟨gM, 0, none⟩ (.slice (some ⟨gN, 0, none⟩) (N + 4) pN)).heap.size) := fun V hV b hbb => by
        simp only [List.mem_cons, List.not_mem_nil, or_false] at hV
        rcases hV with rfl | rfl | rfl
        · cases hbb; exact Lst.lt (k := i + 1) L1.out (by omega)
        · cases hbb; exact Lst.lt (k := i + 2) L2.out (by omega)
        · cases hbb; exact Lst.lt (k := i + 3) L3.out (by omega)
      exact bodyPost_end (results_none rfl _ _ _) rfl ⟨rfl, ⟨_, _, _, HBK.out, HBL.out, HUB.out⟩, HKF.out, HBF.out, by simp; omega⟩
end Go.Proofs.YtkebgnpifmcmaabGreat
