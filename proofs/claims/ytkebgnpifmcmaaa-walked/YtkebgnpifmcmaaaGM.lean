import Derived.Test.YtkebgnpifmcmaaaGS
namespace Go.Proofs.Ytkebgnpifmcmaaa
open Go.RowKit

theorem enterLeft (args : Array Value) (w : World) : (callFunc 32 args).run Try.prog w = .ok (.enter 32 args) w := Go.MuLone.run_callFunc_enter (P := Try.prog) Try.func32 (by kernel_rfl) rfl args w
theorem enterRight (args : Array Value) (w : World) : (callFunc 31 args).run Try.prog w = .ok (.enter 31 args) w := Go.MuLone.run_callFunc_enter (P := Try.prog) Try.func31 (by kernel_rfl) rfl args w

theorem BK_nil (t : List UInt8) : BK t [] = 0 := LO_nil _

set_option maxRecDepth 10000 in
set_option maxHeartbeats 2000000 in
theorem alone_any {im s : ByteArray} {rate : Nat} (hI : Img im s rate) (p : ByteArray) (w : World) (hp : p.size ≤ 2000) :
    Calls Try.prog 33 #[.string im, .string p, .agg #[.int .i64 (LO (tx s) (tx p) : Int), .int .i64 (HI (tx s) (tx p) : Int), .int .i64 (BK (tx s) (tx p) : Int)], .int .i64 ((s.size : Int) + 1)] w fun e w' => e = .returned (.bool true) ∧ Below w.heap.size w w' := by
  have HL : Hid (∀ P (b : UInt8) w, Calls Try.prog 32 #[.string im, .agg #[.int .i64 (LO (tx s) P : Int), .int .i64 (HI (tx s) P : Int), .int .i64 (BK (tx s) P : Int)], .int .i64 (b.toNat : Int)] w (PRes (LO (tx s) (b :: P) : Int) (HI (tx s) (b :: P) : Int) (BK (tx s) (b :: P) : Int) 0 w)) := fun P b w => left_pair hI P b w
  have HNIL : Hid ((LO (tx s) ((tx p).drop p.size) : Int) = 0 ∧ (HI (tx s) ((tx p).drop p.size) : Int) = (s.size : Int) + 1 ∧ (BK (tx s) ((tx p).drop p.size) : Int) = 0) := by
    show _ ∧ _ ∧ _
    rw [List.drop_of_length_le (by rw [tx_length]; exact Nat.le_refl _), LO_nil, HI_nil, BK_nil, tx_length]
    exact ⟨rfl, by omega, rfl⟩
  have HZ : Hid ((tx p).drop 0 = tx p) := List.drop_zero
  have HCON : Hid (∀ k (hk : k < p.size), (tx p).drop k = p[k] :: (tx p).drop (k + 1)) := fun k hk => by rw [drop_cons (tx p) k (by rw [tx_length]; exact hk), tx_getD p k hk]
  clear hI
  generalize hP : tx p = P at *
  clear hP
  have kp := (Blk.new w 40 #[.int .i64 (LO (tx s) P : Int), .int .i64 (HI (tx s) P : Int), .int .i64 (BK (tx s) P : Int)]).alloc (.cells #[.int .i64 0, .int .i64 ((s.size : Int) + 1), .int .i64 0] 40)
  have kq := Blk.new (w.alloc (.cells #[.int .i64 (LO (tx s) P : Int), .int .i64 (HI (tx s) P : Int), .int .i64 (BK (tx s) P : Int)] 40)) 40 #[.int .i64 0, .int .i64 ((s.size : Int) + 1), .int .i64 0]
  rw [show (w.alloc (.cells #[.int .i64 (LO (tx s) P : Int), .int .i64 (HI (tx s) P : Int), .int .i64 (BK (tx s) P : Int)] 40)).heap.size = w.heap.size + 1 from by simp] at kq
  have hb0 : Below w.heap.size w ((w.alloc (.cells #[.int .i64 (LO (tx s) P : Int), .int .i64 (HI (tx s) P : Int), .int .i64 (BK (tx s) P : Int)] 40)).alloc (.cells #[.int .i64 0, .int .i64 ((s.size : Int) + 1), .int .i64 0] 40)) := ((Below.refl _ _).alloc (Nat.le_refl _) _).alloc (by simp) _
  go_enter Try.func33, Try.ntmps33
  go_wp2_with fail
  generalize (w.alloc (.cells #[.int .i64 (LO (tx s) P : Int), .int .i64 (HI (tx s) P : Int), .int .i64 (BK (tx s) P : Int)] 40)).alloc (.cells #[.int .i64 0, .int .i64 ((s.size : Int) + 1), .int .i64 0] 40) = W0 at *
  go_loopw [10, 11, 12] (fun i _ _ wr => ∃ k : Nat, k ≤ p.size ∧ i = .int .i64 ((k : Int) - 1) ∧ Blk wr w.heap.size 40 #[.int .i64 (LO (tx s) P : Int), .int .i64 (HI (tx s) P : Int), .int .i64 (BK (tx s) P : Int)] ∧ Blk wr (w.heap.size + 1) 40 #[.int .i64 (LO (tx s) (P.drop k) : Int), .int .i64 (HI (tx s) (P.drop k) : Int), .int .i64 (BK (tx s) (P.drop k) : Int)] ∧ Below w.heap.size w wr) (fun i _ _ _ => ((intOf i) + 1).toNat)
  case atStart => exact ⟨p.size, Nat.le_refl _, rfl, kp, by rw [HNIL.out.1, HNIL.out.2.1, HNIL.out.2.2]; exact kq, hb0⟩
  case round =>
    clear kp kq hb0 HNIL
    obtain ⟨k, hk, rfl, kp, kq, hb⟩ := hrel
    have p0 : wr.cell? ⟨w.heap.size, 0, none⟩ = some (.int .i64 (LO (tx s) P : Int)) := kp.cell 0
    have p1 : wr.cell? ⟨w.heap.size, 1, none⟩ = some (.int .i64 (HI (tx s) P : Int)) := kp.cell 1
    have p2 : wr.cell? ⟨w.heap.size, 2, none⟩ = some (.int .i64 (BK (tx s) P : Int)) := kp.cell 2
    cases k with
    | zero =>
      rw [HZ.out] at kq
      have q0 : wr.cell? ⟨w.heap.size + 1, 0, none⟩ = some (.int .i64 (LO (tx s) P : Int)) := kq.cell 0
      have q1 : wr.cell? ⟨w.heap.size + 1, 1, none⟩ = some (.int .i64 (HI (tx s) P : Int)) := kq.cell 1
      have q2 : wr.cell? ⟨w.heap.size + 1, 2, none⟩ = some (.int .i64 (BK (tx s) P : Int)) := kq.cell 2
      have d1 : decide ((0 : Int) ≤ ((0 : Nat) : Int) - 1) = false := by decide
      clear HL HCON HZ
      generalize LO (tx s) P = A at *
      generalize HI (tx s) P = B at *
      generalize BK (tx s) P = C at *
      go_wp2
      go_ret
      exact ⟨rfl, hb⟩
    | succ k =>
      have hidx : k < p.size := by omega
      have q0 : wr.cell? ⟨w.heap.size + 1, 0, none⟩ = some (.int .i64 (LO (tx s) (P.drop (k + 1)) : Int)) := kq.cell 0
      have q1 : wr.cell? ⟨w.heap.size + 1, 1, none⟩ = some (.int .i64 (HI (tx s) (P.drop (k + 1)) : Int)) := kq.cell 1
      have q2 : wr.cell? ⟨w.heap.size + 1, 2, none⟩ = some (.int .i64 (BK (tx s) (P.drop (k + 1)) : Int)) := kq.cell 2
      have e0 : (((k + 1 : Nat) : Int) - 1) = (k : Int) := by omega
      rw [e0]
      have hby := (p[k]).toNat_lt
      have HWB : IntKind.i64.wrap ((p[k]).toNat : Int) = ((p[k]).toNat : Int) := wrapI_small (by omega) (by omega)
      have HLC : Hid _ := HL.out (P.drop (k + 1)) p[k] (wr.alloc (.cells #[.int .i64 0, .int .i64 0, .int .i64 0] 40)).drew
      have HDR : Hid (P.drop k = p[k] :: P.drop (k + 1)) := HCON.out k hidx
      have hl1 := kq.lt
      have HLC2 : Hid _ := HL.out (P.drop (k + 1)) p[k] wr.drew
      have kp1 : Blk wr.drew w.heap.size 40 #[.int .i64 (LO (tx s) P : Int), .int .i64 (HI (tx s) P : Int), .int .i64 (BK (tx s) P : Int)] := kp
      have kq1 : Blk wr.drew (w.heap.size + 1) 40 #[.int .i64 (LO (tx s) (P.drop (k + 1)) : Int), .int .i64 (HI (tx s) (P.drop (k + 1)) : Int), .int .i64 (BK (tx s) (P.drop (k + 1)) : Int)] := kq
      have hb1 : Below w.heap.size w wr.drew := hb.drew
      have kp' : Blk (wr.alloc (.cells #[.int .i64 0, .int .i64 0, .int .i64 0] 40)).drew w.heap.size 40 #[.int .i64 (LO (tx s) P : Int), .int .i64 (HI (tx s) P : Int), .int .i64 (BK (tx s) P : Int)] := kp.alloc _
      have kq' : Blk (wr.alloc (.cells #[.int .i64 0, .int .i64 0, .int .i64 0] 40)).drew (w.heap.size + 1) 40 #[.int .i64 (LO (tx s) (P.drop (k + 1)) : Int), .int .i64 (HI (tx s) (P.drop (k + 1)) : Int), .int .i64 (BK (tx s) (P.drop (k + 1)) : Int)] := kq.alloc _
      have kr' : Blk (wr.alloc (.cells #[.int .i64 0, .int .i64 0, .int .i64 0] 40)).drew wr.heap.size 40 #[.int .i64 0, .int .i64 0, .int .i64 0] := Blk.new wr _ _
      have hb' : Below w.heap.size w (wr.alloc (.cells #[.int .i64 0, .int .i64 0, .int .i64 0] 40)).drew := (hb.alloc hb.size _).drew
      have hn1 : w.heap.size ≠ wr.heap.size := by omega
      have hn2 : w.heap.size + 1 ≠ wr.heap.size := by omega
      have hle1 : w.heap.size ≤ wr.heap.size := by omega
      clear HL HCON HZ kp kq hb
      generalize hLA : LO (tx s) (p[k] :: P.drop (k + 1)) = LA at *
      generalize hHA : HI (tx s) (p[k] :: P.drop (k + 1)) = HA at *
      generalize hBA : BK (tx s) (p[k] :: P.drop (k + 1)) = BA at *
      have HEQ : Hid (LO (tx s) (P.drop k) = LA ∧ HI (tx s) (P.drop k) = HA ∧ BK (tx s) (P.drop k) = BA) := by
        show _ ∧ _ ∧ _
        rw [HDR.out]; exact ⟨hLA, hHA, hBA⟩
      clear hLA hHA hBA HDR
      go_upto_region 5 with fail
      go_region_law (first
        | (refine step_calls (args := #[.string im, .agg #[.int .i64 (LO (tx s) (P.drop (k + 1)) : Int), .int .i64 (HI (tx s) (P.drop (k + 1)) : Int), .int .i64 (BK (tx s) (P.drop (k + 1)) : Int)], .int .i64 ((p[k]).toNat : Int)]) rfl rfl enterLeft (by first | (simp [Act.eval, Act.put]; done) | (simp [Act.eval, Act.put]; exact HWB)) HLC.out ?_; rintro en w2 ⟨rfl, hb2⟩; refine ⟨_, rfl, ?_⟩; have armA : True := trivial; have kp2 := kp'.below hb2 kp'.lt; have kq2 := kq'.below hb2 kq'.lt; have kr2 := kr'.below hb2 kr'.lt; have hb3 := hb'.trans (hb2.mono hb'.size); have f0 := kq2.free 0; have f1 := kq2.free 1; have f2 := kq2.free 2; have g0 := kq2.cell 0; have g1 := kq2.cell 1; have g2 := kq2.cell 2; have r0 := kr2.free 0; have r1 := kr2.free 1; have r2 := kr2.free 2; have t0 := kr2.cell 0; have t1 := kr2.cell 1; have t2 := kr2.cell 2)
        | (refine step_calls (args := #[.string im, .agg #[.int .i64 (LO (tx s) (P.drop (k + 1)) : Int), .int .i64 (HI (tx s) (P.drop (k + 1)) : Int), .int .i64 (BK (tx s) (P.drop (k + 1)) : Int)], .int .i64 ((p[k]).toNat : Int)]) rfl rfl enterLeft (by first | (simp [Act.eval, Act.put]; done) | (simp [Act.eval, Act.put]; exact HWB)) HLC2.out ?_; rintro en w2 ⟨rfl, hb2⟩; refine ⟨_, rfl, ?_⟩; have armB : True := trivial; have kp2 := (kp1.below hb2 kp1.lt).alloc (.cells #[.int .i64 (LA : Int), .int .i64 (HA : Int), .int .i64 (BA : Int)] 40); have kq2 := (kq1.below hb2 kq1.lt).alloc (.cells #[.int .i64 (LA : Int), .int .i64 (HA : Int), .int .i64 (BA : Int)] 40); have hb3 := hb1.trans (hb2.mono hb1.size); have hb4 := hb3.alloc hb3.size (.cells #[.int .i64 (LA : Int), .int .i64 (HA : Int), .int .i64 (BA : Int)] 40); have f0 := kq2.free 0; have f1 := kq2.free 1; have f2 := kq2.free 2; have g0 := kq2.cell 0; have g1 := kq2.cell 1; have g2 := kq2.cell 2))
      all_goals go_wp2
      all_goals (
        go_roundw
        case rel =>
          first
            | (have _h := armA
               exact ⟨k, by omega, by go_num, (((((kp2.setOther hn1 _).setOther hn1 _).setOther hn1 _).setOther (by show w.heap.size ≠ w.heap.size + 1; omega) _).setOther (by show w.heap.size ≠ w.heap.size + 1; omega) _).setOther (by show w.heap.size ≠ w.heap.size + 1; omega) _, by rw [HEQ.out.1, HEQ.out.2.1, HEQ.out.2.2]; exact (((((kq2.setOther hn2 _).setOther hn2 _).setOther hn2 _).set 0 _).set 1 _).set 2 _, (((((hb3.setCell hle1 _).setCell hle1 _).setCell hle1 _).setCell (by simp) _).setCell (by simp) _).setCell (by simp) _⟩)
            | (have _h := armB
               exact ⟨k, by omega, by go_num, ((kp2.setOther (by show w.heap.size ≠ w.heap.size + 1; omega) _).setOther (by show w.heap.size ≠ w.heap.size + 1; omega) _).setOther (by show w.heap.size ≠ w.heap.size + 1; omega) _, by rw [HEQ.out.1, HEQ.out.2.1, HEQ.out.2.2]; exact ((kq2.set 0 _).set 1 _).set 2 _, ((hb4.setCell (by simp) _).setCell (by simp) _).setCell (by simp) _⟩)
        case measure => simp [intOf])
end Go.Proofs.Ytkebgnpifmcmaaa

namespace Go.Proofs.Ytkebgnpifmcmaaa
open Go.RowKit

def abaS : ByteArray := { data := #[97, 98, 97] }
theorem aba_b : LO (tx abaS) [98] = 3 ∧ HI (tx abaS) [98] = 4 ∧ BK (tx abaS) [98] = 3 := by decide
theorem aba_a : LO (tx abaS) [97] = 1 ∧ HI (tx abaS) [97] = 3 ∧ BK (tx abaS) [97] = 1 := by decide
theorem aba_0 : LO (tx abaS) [] = 0 ∧ HI (tx abaS) [] = 4 ∧ BK (tx abaS) [] = 0 := by decide

/-- What an image tells. -/
theorem text_img {im s : ByteArray} {rate : Nat} (h : Img im s rate) (w : World) :
    Calls Try.prog 24 #[.string im] w fun e w' => e = .returned (.tuple #[.string s, .int .i64 (rate : Int), .int .i64 0]) ∧ Below w.heap.size w w' := by
  refine (text_any im w).mono ?_
  rintro e w' ⟨hres, hb⟩
  rcases hres with ⟨_, rfl⟩ | ⟨hN, _⟩
  · refine ⟨?_, hb⟩
    rw [show backText (tx (iS im 1)) (iE im 1) = imT im from rfl, show mRate (rBody im 0) = imR im from rfl, h.2.1, h.2.2, bs_tx]
  · exact absurd h.1 hN

set_option maxRecDepth 10000 in
set_option maxHeartbeats 2000000 in
theorem building_any (w : World) : Calls Try.prog 28 #[] w fun e w' => e = .returned (.bool true) ∧ Below w.heap.size w w' := by
  have HB : Hid _ := build_rd abaS 2 w (by decide) (by decide) (by decide)
  have HT : Hid (∀ im, Img im abaS 2 → ∀ w, Calls Try.prog 24 #[.string im] w fun e w' => e = .returned (.tuple #[.string abaS, .int .i64 2, .int .i64 0]) ∧ Below w.heap.size w w') := fun im h w => text_img h w
  have HL : Hid (∀ im, Img im abaS 2 → ∀ w, Calls Try.prog 32 #[.string im, .agg #[.int .i64 0, .int .i64 4, .int .i64 0], .int .i64 98] w (PRes 3 4 3 0 w)) := fun im h w => by
    have := left_pair h [] 98 w
    rw [aba_0.1, aba_0.2.1, aba_0.2.2, aba_b.1, aba_b.2.1, aba_b.2.2] at this
    exact this
  have HR : Hid (∀ im, Img im abaS 2 → ∀ w, Calls Try.prog 31 #[.string im, .agg #[.int .i64 0, .int .i64 4, .int .i64 0], .int .i64 97] w (PRes 1 3 1 0 w)) := fun im h w => by
    have := right_pair h [] 97 w
    rw [List.nil_append, aba_0.1, aba_0.2.1, aba_0.2.2, aba_a.1, aba_a.2.1, aba_a.2.2] at this
    exact this
  unfold abaS at *
  go_enter Try.func28, Try.ntmps28
  go_wp2_with fail
  refine Calls.mono HB.out ?_
  clear HB
  rintro en w1 ⟨im, hI, rfl, hb1⟩
  have HT1 : Hid _ := HT.out im hI
  have HL1 : Hid _ := HL.out im hI
  have HR1 : Hid _ := HR.out im hI
  clear HT HL HR hI
  go_wp2_with fail
  refine Calls.mono (HT1.out w1) ?_
  clear HT1
  rintro en w2 ⟨rfl, hb2⟩
  have hb3 := hb1.trans (hb2.mono hb1.size)
  clear hb1 hb2
  go_wp2_with fail
  refine Calls.mono (HL1.out w2) ?_
  clear HL1
  rintro en w3 ⟨rfl, hb4⟩
  have hb5 := (hb3.trans (hb4.mono hb3.size)).alloc (hb3.trans (hb4.mono hb3.size)).size (.cells #[.int .i64 3, .int .i64 4, .int .i64 3] 40)
  have kA := Blk.new w3 40 #[.int .i64 3, .int .i64 4, .int .i64 3]
  clear hb3 hb4
  go_wp2_with fail
  generalize w3.alloc (.cells #[.int .i64 3, .int .i64 4, .int .i64 3] 40) = W3 at *
  generalize w3.heap.size = gA at *
  refine Calls.mono (HR1.out W3) ?_
  clear HR1
  rintro en w4 ⟨rfl, hb6⟩
  have kA4 := (kA.below hb6 kA.lt).alloc (.cells #[.int .i64 1, .int .i64 3, .int .i64 1] 40)
  have hb7 := (hb5.trans (hb6.mono hb5.size)).alloc (hb5.trans (hb6.mono hb5.size)).size (.cells #[.int .i64 1, .int .i64 3, .int .i64 1] 40)
  clear kA hb5 hb6
  have a0 : (w4.alloc (.cells #[.int .i64 1, .int .i64 3, .int .i64 1] 40)).cell? ⟨gA, 0, none⟩ = some (.int .i64 3) := kA4.cell 0
  have a1 : (w4.alloc (.cells #[.int .i64 1, .int .i64 3, .int .i64 1] 40)).cell? ⟨gA, 1, none⟩ = some (.int .i64 4) := kA4.cell 1
  have HW : Hid (Below w.heap.size w (w4.alloc (.cells #[.int .i64 1, .int .i64 3, .int .i64 1] 40))) := hb7
  clear hb7 kA4
  go_wp2
  go_ret
  exact ⟨rfl, HW.out⟩
end Go.Proofs.Ytkebgnpifmcmaaa

namespace Go.Proofs.Ytkebgnpifmcmaaa
open Go.RowKit

/-- A piece of a text. -/
def pc (t : List UInt8) (a b : Nat) : List UInt8 := (t.take b).drop a
theorem pc_nil (t : List UInt8) (a : Nat) : pc t a a = [] := List.drop_of_length_le (by rw [List.length_take]; omega)
theorem pc_snoc (t : List UInt8) (a b : Nat) (hab : a ≤ b) (hb : b < t.length) : pc t a (b + 1) = pc t a b ++ [t.getD b 0] := by
  unfold pc
  rw [List.take_succ_eq_append_getElem hb, List.drop_append_of_le_length (by rw [List.length_take]; omega)]
  congr 2
  rw [List.getD_eq_getElem?_getD, List.getElem?_eq_getElem hb]; rfl
theorem pc_cons (t : List UInt8) (a b : Nat) (hab : a < b) (hb : b ≤ t.length) : pc t a b = t.getD a 0 :: pc t (a + 1) b := by
  unfold pc
  have h : a < (t.take b).length := by rw [List.length_take]; omega
  rw [List.drop_eq_getElem_cons h]
  congr 1
  rw [List.getElem_take, List.getD_eq_getElem?_getD, List.getElem?_eq_getElem (by omega)]; rfl
theorem tx_ext (s : ByteArray) (a b : Nat) : tx (s.extract a b) = pc (tx s) a b := by
  unfold pc tx
  rw [ByteArray.data_extract, Array.toList_extract, List.extract_eq_take_drop, List.drop_take]
theorem ext_le (s : ByteArray) (a b : Nat) : (s.extract a b).size ≤ s.size := by simp [ByteArray.size_extract]; omega

theorem enterAlone (args : Array Value) (w : World) : (callFunc 33 args).run Try.prog w = .ok (.enter 33 args) w := Go.MuLone.run_callFunc_enter (P := Try.prog) Try.func33 (by kernel_rfl) rfl args w

/-- A cell anywhere below. -/
theorem cell_below' {w w' : World} {a : Addr} {v : Value} (h : w.cell? a = some v) (hb : Below w.heap.size w w') : w'.cell? a = some v := by
  have hlt : a.block < w.heap.size := World.block_lt_of_cell? w a h
  rw [← h]
  simp only [World.cell?, hb.block a.block hlt]
end Go.Proofs.Ytkebgnpifmcmaaa
