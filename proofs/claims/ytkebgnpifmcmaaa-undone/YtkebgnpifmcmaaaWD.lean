import Derived.Test.YtkebgnpifmcmaaaSuf
namespace Go.Proofs.Ytkebgnpifmcmaaa
open Go.RowKit

/-- What stands at the head of a round of the sort. -/
structure SortInv (s : ByteArray) (w wr : World) (vc vo vk vw : Value) (h kinds : Nat) : Prop where
  ex : ∃ go capo gc capc o c, vo = .slice (some ⟨go, 0, none⟩) (s.size + 1) capo ∧ vc = .slice (some ⟨gc, 0, none⟩) (s.size + 1) capc ∧ vk = .int .i64 (kinds : Int) ∧ vw = .int .i64 (h : Int) ∧ Row wr go 3 (s.size + 1) (IN o) ∧ Row wr gc 3 (s.size + 1) (IN c) ∧
    w.heap.size ≤ go ∧ s.size + 1 ≤ capo ∧ capo ≤ maxLen ∧ St (s.size + 1) (ringAt s) h o c kinds
  bel : Below w.heap.size w wr
  one : 1 ≤ h
  two : h < 2 * (s.size + 1)

set_option maxRecDepth 10000 in
set_option maxHeartbeats 1000000 in
theorem sort_any (s : ByteArray) (w : World) (hn : s.size ≤ 2000) :
    Calls Try.prog 36 #[.string s] w fun e w' => ∃ f, NewN w w' e (s.size + 1) f ∧ IsSA (tx s) f := by
  have HE : Hid (ringAt s (s.size + 1 - 1) = 0) := ringAt_end s _ (by omega)
  have HP : Hid (∀ i, i < s.size + 1 - 1 → 0 < ringAt s i) := fun i hi => by rw [ringAt_lt s i (by omega)]; omega
  have HB : Hid (∀ i, i < s.size + 1 → ringAt s i < 257) := fun i _ => by
    unfold ringAt; split
    · next h => have := (s[i]).toNat_lt; omega
    · omega
  have ec : ((s.size : Int) + 1) = ((s.size + 1 : Nat) : Int) := by omega
  have EC := show Hid _ from ec
  clear ec
  go_enter Try.func36, Try.ntmps36
  go_wp2_with fail
  refine (classesOfBytes_any s _ hn).mono ?_
  rintro e w1 ⟨gc, capc, rfl, hcc1, hcc2, hgc, hrc, hb1⟩
  go_wp2_with fail
  rw [EC.out]
  refine (allPlaces_any (s.size + 1) _ (by omega)).mono ?_
  rintro e w2 ⟨gp, capp, rfl, hcp1, hcp2, hgp, hrp, hb2⟩
  have hclt := hrc.lt
  have hrc2 := hrc.below hb2 hclt
  go_wp2_with fail
  refine (sortByClass_any gp (s.size + 1) capp gc capc 257 (fun j => j) (ringAt s) _ (by omega) (by omega) hrp hrc2 (fun j hj => hj) HB.out (fun x => rfl)).mono ?_
  rintro e w3 ⟨o, ⟨go, capo, rfl, hco1, hco2, hgo, hro, hb3⟩, hos⟩
  have hrc3 := hrc2.below hb3 hrc2.lt
  have O1 : Hid (∀ i, i < s.size + 1 → o i < s.size + 1) := (Ord.init (r := ringAt s) (by omega) hos).lt
  have O2 : Hid (∀ i j, i < s.size + 1 → j < s.size + 1 → o i = o j → i = j) := (Ord.init (r := ringAt s) (by omega) hos).inj
  go_wp2_with fail
  refine (joinClasses_any go (s.size + 1) capo gc capc 0 o (ringAt s) _ (by omega) (by omega) hro hrc3 O1.out O2.out (by omega)).mono ?_
  rintro e w4 ⟨gf, capf, f, rfl, hgf, hrf, hb4, hff⟩
  have T0 : St (s.size + 1) (ringAt s) 1 o f (jd (fun a b => halvesB (s.size + 1) (ringAt s) a b 0) o (s.size + 1 - 1) + 1) := St.init (by omega) HE.out HP.out hos hff
  have hz1 := hb1.size
  have hz2 := hb2.size
  have hz3 := hb3.size
  have I0 : SortInv s w w4 (.slice (some ⟨gf, 0, none⟩) (s.size + 1) capf) (.slice (some ⟨go, 0, none⟩) (s.size + 1) capo) (.int .i64 ((jd (fun a b => halvesB (s.size + 1) (ringAt s) a b 0) o (s.size + 1 - 1) + 1 : Nat) : Int)) (.int .i64 ((1 : Nat) : Int)) 1 (jd (fun a b => halvesB (s.size + 1) (ringAt s) a b 0) o (s.size + 1 - 1) + 1) :=
    ⟨⟨go, capo, gf, capf, o, f, rfl, rfl, rfl, rfl, hro.below hb4 hro.lt, hrf, by omega, hco1, hco2, T0⟩, hb1.trans ((hb2.mono hz1).trans ((hb3.mono (by omega)).trans (hb4.mono (by omega)))), by omega, by omega⟩
  clear T0 hff hrf hro hos hrc3 hrc2 hrc hrp hb1 hb2 hb3 hb4 O1 O2
  generalize jd (fun a b => halvesB (s.size + 1) (ringAt s) a b 0) o (s.size + 1 - 1) + 1 = K0 at *
  go_wp2_with fail
  go_loopw [3, 4, 5, 6] (fun vc vo vk vw wr => ∃ h kinds, SortInv s w wr vc vo vk vw h kinds) (fun _ _ _ vw _ => 2 * (s.size + 1) - (intOf vw).toNat)
  case atStart => exact ⟨1, K0, I0⟩
  case round =>
    clear I0
    obtain ⟨h, kinds, ⟨go, capo, gc, capc, o, c, rfl, rfl, rfl, rfl, hro, hrc, hgo, hco1, hco2, T⟩, hb, h1, h2⟩ := hrel
    have HT : Hid (St (s.size + 1) (ringAt s) h o c kinds) := T
    clear T
    have hkl := HT.out.kinds_le
    by_cases hlt : kinds < s.size + 1
    · have hhN := HT.out.more hlt
      have hclt := hrc.lt
      have hsz := hb.size
      go_wp2_with fail
      refine (stepBack_any go (s.size + 1) capo h o _ (by omega) (by omega) hro HT.out.ord.lt (by omega)).mono ?_
      rintro e w5 ⟨gp, capp, rfl, hcp1, hcp2, hgp, hrp, hb5⟩
      have hrc5 := hrc.below hb5 hclt
      go_wp2_with fail
      refine (sortByClass_any gp (s.size + 1) capp gc capc kinds (fun j => backBy (s.size + 1) h (o j)) c _ (by omega) (by omega) hrp hrc5 (fun j hj => Nat.mod_lt _ (by omega)) HT.out.below (HT.out.perm (by omega) (by omega))).mono ?_
      rintro e w6 ⟨o2, ⟨go2, capo2, rfl, hcq1, hcq2, hgq, hrq, hb6⟩, hos⟩
      have hrc6 := hrc5.below hb6 hrc5.lt
      have O := HT.out.stepOrd (by omega) hlt hos
      have O1 : Hid (∀ i, i < s.size + 1 → o2 i < s.size + 1) := O.lt
      have O2 : Hid (∀ i j, i < s.size + 1 → j < s.size + 1 → o2 i = o2 j → i = j) := O.inj
      clear O
      go_wp2_with fail
      refine (joinClasses_any go2 (s.size + 1) capo2 gc capc h o2 c _ (by omega) (by omega) hrq hrc6 O1.out O2.out (by omega)).mono ?_
      rintro e w7 ⟨gf, capf, f, rfl, hgf, hrf, hb7, hff⟩
      have T1 := HT.out.step (by omega) HE.out HP.out hlt hos hff
      have hz5 := hb5.size
      have hz6 := hb6.size
      have I1 : SortInv s w w7 (.slice (some ⟨gf, 0, none⟩) (s.size + 1) capf) (.slice (some ⟨go2, 0, none⟩) (s.size + 1) capo2) (.int .i64 ((jd (fun a b => halvesB (s.size + 1) c a b h) o2 (s.size + 1 - 1) + 1 : Nat) : Int)) (.int .i64 ((h + h : Nat) : Int)) (h + h) (jd (fun a b => halvesB (s.size + 1) c a b h) o2 (s.size + 1 - 1) + 1) :=
        ⟨⟨go2, capo2, gf, capf, o2, f, rfl, rfl, rfl, rfl, hrq.below hb7 hrq.lt, hrf, by omega, hcq1, hcq2, T1⟩, hb.trans ((hb5.mono hsz).trans ((hb6.mono (by omega)).trans (hb7.mono (by omega)))), by omega, by omega⟩
      clear T1 hff hrf hro hos hrc6 hrc5 hrc hrp hb5 hb6 hb7 O1 O2 hrq
      generalize jd (fun a b => halvesB (s.size + 1) c a b h) o2 (s.size + 1 - 1) + 1 = K1 at *
      go_wp2
      go_roundw
      case rel => 
        refine ⟨h + h, K1, ?_⟩
        rw [show (h : Int) * 2 = ((h + h : Nat) : Int) from by omega]
        exact I1
      case measure => simp [intOf]; omega
    · go_wp2
      go_ret
      refine ⟨o, ⟨_, _, rfl, hco1, hco2, hgo, hro, hb⟩, ?_⟩
      have T := HT.out
      rw [ringAt_tx, ← tx_length s] at T
      exact T.sa (by rw [tx_length]; omega)
end Go.Proofs.Ytkebgnpifmcmaaa
