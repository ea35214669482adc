import Derived.Test.YtkebgnpifmcmaaaXY
namespace Go.Proofs.Ytkebgnpifmcmaaa
open Go.RowKit

theorem sText_size (b : ByteArray) (n : Nat) (h : sOk b n) : (sText b n).size = n := by
  unfold sText
  rcases h with ⟨h0, _⟩ | ⟨h1, h2⟩
  · rw [if_pos h0, bs_size, fText_length]
  · rw [if_neg (by omega)]; exact rTake_full _ _ h2
theorem sEnd_lt (b : ByteArray) : sEnd b < 65536 := rNum_lt _

/-- What reading an image asks, up to the two sides. -/
def Parses (im : ByteArray) : Prop := rTags im ∧ (rSt im 4).2 = false ∧ mOk (rBody im 0) ∧ sOk (rBody im 1) (mSize (rBody im 0)) ∧ sOk (rBody im 2) (mSize (rBody im 0))
def iS (im : ByteArray) (k : Nat) : ByteArray := sText (rBody im k) (mSize (rBody im 0))
def iE (im : ByteArray) (k : Nat) : Nat := sEnd (rBody im k)
def Joins (im : ByteArray) : Prop := (iE im 1 ≤ (iS im 1).size ∧ okBack (tx (iS im 1)) (iE im 1)) ∧ (iE im 2 ≤ (iS im 2).size ∧ okBack (tx (iS im 2)) (iE im 2)) ∧ backText (tx (iS im 2)) (iE im 2) = (backText (tx (iS im 1)) (iE im 1)).reverse
def Same (im : ByteArray) : Prop := ∀ f, IsSA (backText (tx (iS im 1)) (iE im 1)) f → bs (imgB (bodyB (iS im 1) (iE im 1) (iS im 2) (iE im 2) (mRate (rBody im 0)) f) 4) = im
def Reads (im : ByteArray) : Prop := Parses im ∧ Joins im ∧ Same im

def IxRes (im : ByteArray) (w : World) (e : Ending) (w' : World) : Prop :=
  ((Reads im ∧ ∃ g f, IsSA (backText (tx (iS im 1)) (iE im 1)) f ∧ e = .returned (.tuple #[.pointer (some ⟨g, 0, none⟩), .bool true]) ∧ IndexQ w' g (iS im 1) (iE im 1) (iS im 2) (iE im 2) (mRate (rBody im 0)) f) ∨
    (¬ Reads im ∧ e = .returned (.tuple #[.pointer none, .bool false]))) ∧ Below w.heap.size w w'

theorem keptL_congr {f g : Nat → Nat} (rate n : Nat) (h : ∀ i, i < n → f i = g i) : keptL f rate n = keptL g rate n := by
  induction n with
  | zero => rfl
  | succ n ih => simp only [keptL]; rw [ih (fun i hi => h i (by omega)), show isK f rate n = isK g rate n from by unfold isK; rw [h n (by omega)], h n (by omega)]
theorem keptB_congr {f g : Nat → Nat} (rate n : Nat) (h : ∀ i, i < n → f i = g i) : keptB f rate n = keptB g rate n := by
  unfold keptB
  rw [keptL_congr rate n h, packed_congr (f := isK f rate) (g := isK g rate) (fun i hi => by unfold isK; rw [h i hi])]
theorem bodyB_congr (s1 : ByteArray) (e1 : Nat) (s2 : ByteArray) (e2 rate : Nat) {f g : Nat → Nat} (h : ∀ i, i < s1.size + 1 → f i = g i) : bodyB s1 e1 s2 e2 rate f = bodyB s1 e1 s2 e2 rate g := by
  funext k
  unfold bodyB
  split
  · rfl
  · rfl
  · rfl
  · exact keptB_congr _ _ h

theorem join_im (im : ByteArray) (w : World) (h1 : (iS im 1).size ≤ 2000) (h2 : (iS im 2).size ≤ 2000) (hr : 1 ≤ mRate (rBody im 0)) :
    Calls Try.prog 60 #[.agg #[.string (iS im 1), .int .i64 (iE im 1 : Int)], .agg #[.string (iS im 2), .int .i64 (iE im 2 : Int)], .int .i64 (mRate (rBody im 0) : Int)] w fun en w' =>
      ((Joins im ∧ ∃ g f, IsSA (backText (tx (iS im 1)) (iE im 1)) f ∧ en = .returned (.tuple #[.pointer (some ⟨g, 0, none⟩), .bool true]) ∧ IndexQ w' g (iS im 1) (iE im 1) (iS im 2) (iE im 2) (mRate (rBody im 0)) f) ∨
        (¬ Joins im ∧ en = .returned (.tuple #[.pointer none, .bool false]))) ∧ Below w.heap.size w w' := by
  by_cases hA : iE im 1 ≤ (iS im 1).size ∧ okBack (tx (iS im 1)) (iE im 1)
  · by_cases hB : iE im 2 ≤ (iS im 2).size ∧ okBack (tx (iS im 2)) (iE im 2)
    · obtain ⟨f, hf⟩ := sa_exists (bs (backText (tx (iS im 1)) (iE im 1))) w (by rw [bs_size, backText_length, tx_length]; exact h1)
      rw [tx_bs] at hf
      refine (join_ok _ _ _ _ _ f w h1 h2 hA.1 hB.1 hA.2 hB.2 (by omega) hf).mono ?_
      rintro en w' ⟨h, hb⟩
      rcases h with ⟨he, g, rfl, hI⟩ | ⟨he, rfl⟩
      · exact ⟨.inl ⟨⟨hA, hB, he⟩, g, f, hf, rfl, hI⟩, hb⟩
      · exact ⟨.inr ⟨fun h => he h.2.2, rfl⟩, hb⟩
    · refine (join_no2 _ _ _ _ _ w h1 h2 hA.1 hA.2 ?_).mono ?_
      · by_cases h : iE im 2 ≤ (iS im 2).size
        · exact .inr ⟨h, fun h' => hB ⟨h, h'⟩⟩
        · exact .inl (by omega)
      · rintro en w' ⟨rfl, hb⟩
        exact ⟨.inr ⟨fun h => hB h.2.1, rfl⟩, hb⟩
  · refine (join_no1 _ _ _ _ _ w h1 ?_).mono ?_
    · by_cases h : iE im 1 ≤ (iS im 1).size
      · exact .inr ⟨h, fun h' => hA ⟨h, h'⟩⟩
      · exact .inl (by omega)
    · rintro en w' ⟨rfl, hb⟩
      exact ⟨.inr ⟨fun h => hA h.1, rfl⟩, hb⟩

set_option maxRecDepth 10000 in
set_option maxHeartbeats 1000000 in
theorem index_any (im : ByteArray) (w : World) : Calls Try.prog 44 #[.string im] w (IxRes im w) := by
  have HSP : Hid _ := split_any im w
  go_enter Try.func44, Try.ntmps44
  go_wp2_with fail
  refine Calls.mono HSP.out ?_
  clear HSP
  rintro en w1 ⟨hres, hb1⟩
  have hres' : ∃ F B, en = .returned (.tuple #[.agg (S4 F), .bool B]) ∧ Hid (B = true → rTags im ∧ (rSt im 4).2 = false ∧ F = rBody im) ∧ Hid (B = false → ¬ Reads im) := by
    rcases hres with ⟨ht, rfl⟩ | ⟨hnt, F, rfl⟩
    · refine ⟨_, _, rfl, fun hB => ⟨ht, by simpa using hB, rfl⟩, fun hB h => ?_⟩
      have := h.1.2.1
      rw [this] at hB; cases hB
    · exact ⟨F, false, rfl, (fun h => Bool.noConfusion h), fun _ h => hnt h.1.1⟩
  clear hres
  obtain ⟨F, B, rfl, HB1, HB0⟩ := hres'
  have k0 := Blk.new w1 95 (S4 F)
  have hb2 : Below w.heap.size w (w1.alloc (.cells (S4 F) 95)) := hb1.alloc hb1.size _
  unfold S4 at k0 hb2 ⊢
  cases B with
  | false =>
    have HNR : Hid (¬ Reads im) := HB0.out rfl
    clear HB1 HB0
    go_wp2_with fail
    go_ret2
    exact ⟨.inr ⟨HNR.out, rfl⟩, hb2⟩
  | true =>
    obtain ⟨htags, hst, rfl⟩ := HB1.out rfl
    have HTG : Hid (rTags im ∧ (rSt im 4).2 = false) := ⟨htags, hst⟩
    clear HB1 HB0 htags hst hb1
    have HMC : Hid (∀ w, Calls Try.prog 64 #[.string (rBody im 0)] w fun e w' => ((mOk (rBody im 0) ∧ e = .returned (.tuple #[.int .i64 (mSize (rBody im 0) : Int), .int .i64 (mRate (rBody im 0) : Int), .bool true])) ∨ (¬ mOk (rBody im 0) ∧ e = .returned (.tuple #[.int .i64 (mSize (rBody im 0) : Int), .int .i64 (mRate (rBody im 0) : Int), .bool false]))) ∧ Below w.heap.size w w') := fun w => readMeasures_any (rBody im 0) w
    have HSC : Hid (∀ k w, mSize (rBody im 0) ≤ 2000 → Calls Try.prog 65 #[.string (rBody im k), .int .i64 (mSize (rBody im 0) : Int)] w (SideRes (rBody im k) (mSize (rBody im 0)) w)) := fun k w h => readSide_any (rBody im k) _ w h
    go_wp2_with fail
    generalize w1.alloc (.cells #[.string (rBody im 0), .string (rBody im 1), .string (rBody im 2), .string (rBody im 3)] 95) = W1 at *
    generalize w1.heap.size = g0 at *
    have hg0 := k0.lt
    refine Calls.mono (HMC.out W1) ?_
    clear HMC
    rintro en w2 ⟨hres, hb3⟩
    have k2 := k0.below hb3 hg0
    have hb4 := hb2.trans (hb3.mono hb2.size)
    clear k0 hb2 hb3 hg0
    rcases hres with ⟨hok, rfl⟩ | ⟨hno, rfl⟩
    case inr =>
      have HNR : Hid (¬ Reads im) := fun h => hno h.1.2.2.1
      go_wp2_with fail
      go_ret2
      exact ⟨.inr ⟨HNR.out, rfl⟩, hb4⟩
    case inl =>
      have hms : mSize (rBody im 0) ≤ 2000 := hok.2.1
      have hmr1 : 1 ≤ mRate (rBody im 0) := hok.2.2.1
      have hmr2 : mRate (rBody im 0) ≤ 64 := hok.2.2.2
      have HOK : Hid (mOk (rBody im 0)) := hok
      clear hok
      have hc1 : w2.cell? ⟨g0, 1, none⟩ = some (.string (rBody im 1)) := k2.cell 1
      have hg2 := k2.lt
      have HS1 : Hid _ := HSC.out 1 w2 hms
      go_wp2_with fail
      refine Calls.mono HS1.out ?_
      clear HS1
      rintro en w3 ⟨hres, hb5⟩
      have k3 := k2.below hb5 hg2
      have hb6 := hb4.trans (hb5.mono hb4.size)
      clear k2 hb4 hb5 hc1
      rcases hres with ⟨hok1, rfl⟩ | ⟨hno, S, rfl⟩
      case inr =>
        have HNR : Hid (¬ Reads im) := fun h => hno h.1.2.2.2.1
        go_wp2_with fail
        go_ret2
        exact ⟨.inr ⟨HNR.out, rfl⟩, hb6.alloc hb6.size _⟩
      case inl =>
        have HOK1 : Hid (sOk (rBody im 1) (mSize (rBody im 0))) := hok1
        have hsz1 : (iS im 1).size = mSize (rBody im 0) := sText_size _ _ hok1
        have hE1 : iE im 1 < 65536 := sEnd_lt _
        rw [show sText (rBody im 1) (mSize (rBody im 0)) = iS im 1 from rfl, show sEnd (rBody im 1) = iE im 1 from rfl]
        clear hok1
        have kA := Blk.new w3 92 #[.string (iS im 1), .int .i64 (iE im 1 : Int)]
        have k4 := k3.alloc (.cells #[.string (iS im 1), .int .i64 (iE im 1 : Int)] 92)
        have hb7 := hb6.alloc hb6.size (.cells #[.string (iS im 1), .int .i64 (iE im 1 : Int)] 92)
        have HS2 : Hid (∀ w, Calls Try.prog 65 #[.string (rBody im 2), .int .i64 (mSize (rBody im 0) : Int)] w (SideRes (rBody im 2) (mSize (rBody im 0)) w)) := fun w => HSC.out 2 w hms
        have hc2 : (w3.alloc (.cells #[.string (iS im 1), .int .i64 (iE im 1 : Int)] 92)).cell? ⟨g0, 2, none⟩ = some (.string (rBody im 2)) := k4.cell 2
        clear HSC k3 hb6
        go_wp2_with fail
        generalize w3.alloc (.cells #[.string (iS im 1), .int .i64 (iE im 1 : Int)] 92) = W3 at *
        generalize w3.heap.size = gA at *
        have hgA := kA.lt
        refine Calls.mono (HS2.out W3) ?_
        clear HS2 hc2
        rintro en w4 ⟨hres, hb8⟩
        have kA2 := kA.below hb8 hgA
        have hb9 := hb7.trans (hb8.mono hb7.size)
        clear kA k4 hb7 hb8
        rcases hres with ⟨hok2, rfl⟩ | ⟨hno, S, rfl⟩
        case inr =>
          have HNR : Hid (¬ Reads im) := fun h => hno h.1.2.2.2.2
          go_wp2_with fail
          go_ret2
          exact ⟨.inr ⟨HNR.out, rfl⟩, hb9.alloc hb9.size _⟩
        case inl =>
          have HP : Hid (Parses im) := ⟨HTG.out.1, HTG.out.2, HOK.out, HOK1.out, hok2⟩
          have hsz2 : (iS im 2).size = mSize (rBody im 0) := sText_size _ _ hok2
          have hE2 : iE im 2 < 65536 := sEnd_lt _
          rw [show sText (rBody im 2) (mSize (rBody im 0)) = iS im 2 from rfl, show sEnd (rBody im 2) = iE im 2 from rfl]
          clear hok2 HTG HOK HOK1
          have kB := Blk.new w4 92 #[.string (iS im 2), .int .i64 (iE im 2 : Int)]
          have kA3 := kA2.alloc (.cells #[.string (iS im 2), .int .i64 (iE im 2 : Int)] 92)
          have hb10 := hb9.alloc hb9.size (.cells #[.string (iS im 2), .int .i64 (iE im 2 : Int)] 92)
          have hd0 : (w4.alloc (.cells #[.string (iS im 2), .int .i64 (iE im 2 : Int)] 92)).cell? ⟨gA, 0, none⟩ = some (.string (iS im 1)) := kA3.cell 0
          have hd1 : (w4.alloc (.cells #[.string (iS im 2), .int .i64 (iE im 2 : Int)] 92)).cell? ⟨gA, 1, none⟩ = some (.int .i64 (iE im 1 : Int)) := kA3.cell 1
          have hd2 : (w4.alloc (.cells #[.string (iS im 2), .int .i64 (iE im 2 : Int)] 92)).cell? ⟨w4.heap.size, 0, none⟩ = some (.string (iS im 2)) := kB.cell 0
          have hd3 : (w4.alloc (.cells #[.string (iS im 2), .int .i64 (iE im 2 : Int)] 92)).cell? ⟨w4.heap.size, 1, none⟩ = some (.int .i64 (iE im 2 : Int)) := kB.cell 1
          clear kA2 hb9 kA3 kB
          go_wp2_with fail
          generalize w4.alloc (.cells #[.string (iS im 2), .int .i64 (iE im 2 : Int)] 92) = W4 at *
          have HJ : Hid _ := join_im im W4 (by omega) (by omega) hmr1
          refine Calls.mono HJ.out ?_
          clear HJ hd0 hd1 hd2 hd3
          rintro en w5 ⟨hres, hb11⟩
          have hb12 := hb10.trans (hb11.mono hb10.size)
          clear hb10 hb11
          rcases hres with ⟨hj, g, f, hf, rfl, hI⟩ | ⟨hno, rfl⟩
          case inr =>
            have HNR : Hid (¬ Reads im) := fun h => hno h.2.1
            clear hno
            go_wp2_with fail
            go_ret2
            exact ⟨.inr ⟨HNR.out, rfl⟩, hb12⟩
          case inl =>
            have HJ : Hid (Joins im) := hj
            have hq1 := hj.1.1
            have hq2 := hj.2.1.1
            have HF : Hid (IsSA (backText (tx (iS im 1)) (iE im 1)) f) := hf
            have HI : Hid _ := hI
            have hle : ∀ r, r < (iS im 1).size + 1 → f r ≤ 2000 := fun r hr => Nat.le_trans (hf.le r (by rw [backText_length, tx_length]; omega)) (by rw [backText_length, tx_length]; omega)
            have HIM : Hid _ := image_any w5 g (iE im 1) (iE im 2) (mRate (rBody im 0)) (iS im 1) (iS im 2) f hI (by omega) (by omega) hmr2 (by omega) (by omega) hle
            have HIB : Hid (∀ w', Below w5.heap.size w5 w' → IndexQ w' g (iS im 1) (iE im 1) (iS im 2) (iE im 2) (mRate (rBody im 0)) f) := fun w' hb => hI.below hb
            clear hj hf hI hle HI
            have HSM : Hid (bs (imgB (bodyB (iS im 1) (iE im 1) (iS im 2) (iE im 2) (mRate (rBody im 0)) f) 4) = im → Same im) := fun he f' hf' => by
              rw [← bodyB_congr (iS im 1) (iE im 1) (iS im 2) (iE im 2) (mRate (rBody im 0)) (f := f) (g := f') (fun i hi => HF.out.unique hf' i (by rw [backText_length, tx_length]; omega))]
              exact he
            have HSN : Hid (Same im → bs (imgB (bodyB (iS im 1) (iE im 1) (iS im 2) (iE im 2) (mRate (rBody im 0)) f) 4) = im) := fun h => h f HF.out
            go_wp2_with fail
            refine Calls.mono HIM.out ?_
            clear HIM
            rintro en w6 ⟨rfl, hb13⟩
            have HIX : Hid _ := HIB.out w6 hb13
            have hb14 := hb12.trans (hb13.mono hb12.size)
            clear HIB hb12 hb13
            generalize bs (imgB (bodyB (iS im 1) (iE im 1) (iS im 2) (iE im 2) (mRate (rBody im 0)) f) 4) = IM at *
            by_cases heq : IM = im
            · subst heq
              have HR : Hid (Reads IM) := ⟨HP.out, HJ.out, HSM.out rfl⟩
              clear HSM HSN
              go_wp2_with fail
              go_ret2
              exact ⟨.inl ⟨HR.out, g, f, HF.out, rfl, HIX.out⟩, hb14⟩
            · have hne : (IM.toList == im.toList) = false := by
                simp only [beq_eq_false_iff_ne, ne_eq]
                exact fun h => heq (toList_inj h)
              have HNR : Hid (¬ Reads im) := fun h => heq (HSN.out h.2.2)
              clear HSM HSN
              go_wp2_with fail
              go_ret2
              exact ⟨.inr ⟨HNR.out, rfl⟩, hb14⟩
end Go.Proofs.Ytkebgnpifmcmaaa
