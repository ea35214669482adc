import Derived.Test.YtkebgnpifmcmaabGreatGP
namespace Go.Proofs.YtkebgnpifmcmaabGreat
open Go.RowKit

theorem OwnL.lst {w : World} {base : Nat} {v : Value} {l : List Nat} (h : OwnL w base v l) : Lst w v l.length (II fun j => (l.getD j 0 : Int)) := by
  obtain ⟨ao, cap, rfl, hh⟩ := h.shape
  exact ⟨ao, cap, rfl, fun hn => by obtain ⟨g, rfl, _, hr⟩ := hh hn; exact ⟨g, rfl, hr⟩⟩

set_option maxRecDepth 10000 in
set_option maxHeartbeats 1000000 in
theorem exact_yes (im s p : ByteArray) (w : World) (hR : Reads im) (ht : imT im = tx s) (hp : p.size ≤ maxLen) :
    Calls Tryz.prog 52 #[.string im, .string s, .bool true, .string p] w fun e w' => e = .returned (.bool true) ∧ Below w.heap.size w w' := by
  have hn : s.size ≤ 2000 := by have := imT_le hR w; rw [ht, tx_length] at this; exact this
  by_cases hsz : 0 < p.size ∧ p.size ≤ 30
  · have HC : Hid (∀ w, Calls Tryz.prog 35 #[.string im, .string p] w fun e w' => e = .returned (.tuple #[.int .i64 ((filt (stP (tx s) (tx p)) (s.size + 1)).length : Int), .int .i64 0]) ∧ Below w.heap.size w w') := fun w => (count_any im p w hp).mono (fun e w' hh => by
      rcases hh with ⟨⟨h, _⟩ | ⟨_, h, _⟩ | ⟨_, _, he⟩, hb⟩
      · exact absurd hR h
      · exact absurd hsz h
      · rw [ht, tx_length] at he; exact ⟨he, hb⟩)
    have HL : Hid (∀ w, Calls Tryz.prog 19 #[.string im, .string p] w fun e w' => ∃ v, e = .returned (.tuple #[v, .int .i64 0]) ∧ Lst w' v (filt (stP (tx s) (tx p)) (s.size + 1)).length (II fun j => ((filt (stP (tx s) (tx p)) (s.size + 1)).getD j 0 : Int)) ∧ Below w.heap.size w w') := fun w => (locate_any im p w hp).mono (fun e w' hh => by
      rcases hh with ⟨⟨h, _⟩ | ⟨_, h, _⟩ | ⟨_, _, v, he, ho⟩, hb⟩
      · exact absurd hR h
      · exact absurd hsz h
      · rw [ht, tx_length] at ho; exact ⟨v, he, ho.lst, hb⟩)
    have HW : Hid (∀ w, Calls Tryz.prog 31 #[.string s, .string p, .int .i64 0] w fun e w' => ∃ v, e = .returned (.tuple #[v, .int .i64 0]) ∧ Lst w' v (filt (stP (tx s) (tx p)) (s.size + 1)).length (II fun j => ((filt (stP (tx s) (tx p)) (s.size + 1)).getD j 0 : Int)) ∧ Below w.heap.size w w') := fun w => (refWrong_zero s p w hn hsz.1 hsz.2).mono (fun e w' ⟨v, he, ho, hb⟩ => ⟨v, he, ho.lst, hb⟩)
    have hfl : (filt (stP (tx s) (tx p)) (s.size + 1)).length ≤ 3000 := by rw [filt_length]; have := cntB_le (stP (tx s) (tx p)) (s.size + 1); omega
    clear hR ht hp hsz
    generalize (fun j => ((filt (stP (tx s) (tx p)) (s.size + 1)).getD j 0 : Int)) = F at *
    generalize (filt (stP (tx s) (tx p)) (s.size + 1)).length = M at *
    go_enter Tryz.func52, Tryz.ntmps52
    go_wp2_with fail
    refine Calls.mono (HC.out _) ?_
    clear HC
    rintro en w1 ⟨rfl, hb1⟩
    go_wp2_with fail
    refine Calls.mono (HL.out w1) ?_
    clear HL
    rintro en w2 ⟨va, rfl, hla, hb2⟩
    obtain ⟨ao, ca, rfl, ha⟩ := hla
    have hla : Lst w2 (.slice ao M ca) M (II F) := ⟨ao, ca, rfl, ha⟩
    have hb3 := hb1.trans (hb2.mono hb1.size)
    clear hb1 hb2 ha
    go_wp2_with fail
    refine Calls.mono (HW.out w2) ?_
    clear HW
    rintro en w3 ⟨vb, rfl, hlb, hb4⟩
    obtain ⟨bo, cb, rfl, hb⟩ := hlb
    have hlb : Lst w3 (.slice bo M cb) M (II F) := ⟨bo, cb, rfl, hb⟩
    have HSM : Hid _ := same_true (.slice ao M ca) (.slice bo M cb) M F w3 hfl (hla.below hb4) hlb
    have hb5 := hb3.trans (hb4.mono hb3.size)
    clear hb3 hb4 hla hlb hb
    go_wp2_with fail
    refine Calls.mono HSM.out ?_
    clear HSM
    rintro en w4 ⟨rfl, q, rfl⟩
    have hb6 := below_drewN hb5 q
    have q1 : ((M : Int) == (M : Int)) = true := by simp
    go_wp2
    go_ret
    exact ⟨rfl, hb6⟩
  · have HC : Hid (∀ w, Calls Tryz.prog 35 #[.string im, .string p] w fun e w' => e = .returned (.tuple #[.int .i64 0, .int .i64 (patE p)]) ∧ Below w.heap.size w w') := fun w => (count_any im p w hp).mono (fun e w' hh => by
      rcases hh with ⟨⟨h, _⟩ | ⟨_, h, he⟩ | ⟨_, h, _⟩, hb⟩
      · exact absurd hR h
      · exact ⟨he, hb⟩
      · exact absurd h hsz)
    have HL : Hid (∀ w, Calls Tryz.prog 19 #[.string im, .string p] w fun e w' => e = .returned (.tuple #[.slice none 0 0, .int .i64 (patE p)]) ∧ Below w.heap.size w w') := fun w => (locate_any im p w hp).mono (fun e w' hh => by
      rcases hh with ⟨⟨h, _⟩ | ⟨_, h, he⟩ | ⟨_, h, _⟩, hb⟩
      · exact absurd hR h
      · exact ⟨he, hb⟩
      · exact absurd h hsz)
    have HW : Hid (∀ w, Calls Tryz.prog 31 #[.string s, .string p, .int .i64 0] w fun e w' => e = .returned (.tuple #[.slice none 0 0, .int .i64 (patE p)]) ∧ w' = w) := fun w => refWrong_bad s p w hp hsz
    have HSM : Hid (∀ w, Calls Tryz.prog 32 #[.slice none 0 0, .slice none 0 0] w fun e w' => e = .returned (.bool true) ∧ ∃ m, w' = w.drewN m) := fun w => same_true (.slice none 0 0) (.slice none 0 0) 0 (fun _ => 0) w (by decide) ⟨none, 0, rfl, fun h => by omega⟩ ⟨none, 0, rfl, fun h => by omega⟩
    clear hR ht hp hsz
    generalize patE p = E at *
    go_enter Tryz.func52, Tryz.ntmps52
    go_wp2_with fail
    refine Calls.mono (HC.out _) ?_
    clear HC
    rintro en w1 ⟨rfl, hb1⟩
    go_wp2_with fail
    refine Calls.mono (HL.out w1) ?_
    clear HL
    rintro en w2 ⟨rfl, hb2⟩
    have hb3 := hb1.trans (hb2.mono hb1.size)
    clear hb1 hb2
    go_wp2_with fail
    refine Calls.mono (HW.out w2) ?_
    clear HW
    rintro en w3 ⟨rfl, rfl⟩
    go_wp2_with fail
    refine Calls.mono (HSM.out _) ?_
    clear HSM
    rintro en w4 ⟨rfl, q, rfl⟩
    have hb6 := below_drewN hb3 q
    have q1 : (E == E) = true := by simp
    go_wp2
    go_ret
    exact ⟨rfl, hb6⟩
end Go.Proofs.YtkebgnpifmcmaabGreat
