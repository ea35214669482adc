import Derived.Test.YtkebgnpifmcmaaaXS
namespace Go.Proofs.Ytkebgnpifmcmaaa
open Go.RowKit

/-- The bytes are an image of this text, at this rate. -/
def IsImg (t : List UInt8) (rate : Nat) (im : List UInt8) : Prop :=
  ∃ f f2, IsSA t f ∧ IsSA t.reverse f2 ∧ im = imgB (bodyB (bs (pre t f (t.length + 1))) (endOf f (t.length + 1)) (bs (pre t.reverse f2 (t.length + 1))) (endOf f2 (t.length + 1)) rate f) 4

theorem image_of (w : World) (g rate : Nat) (t : List UInt8) (h : IndexP w g t rate) (hn : t.length ≤ 2000) (hr : rate ≤ 64) :
    Calls Try.prog 42 #[.pointer (some ⟨g, 0, none⟩)] w fun en w' => ∃ im, IsImg t rate im ∧ en = .returned (.string (bs im)) ∧ Below w.heap.size w w' := by
  obtain ⟨f, f2, hf, hf2, hq⟩ := h
  have l1 := bwt_length hf
  have l2 := bwt_length hf2
  rw [List.length_reverse] at l2
  have e1 := (sa_end hf).1
  have e2 := (sa_end hf2).1
  rw [List.length_reverse] at e2
  refine (image_any w g _ _ rate _ _ f hq (by rw [bs_size, l1]; exact hn) (by rw [bs_size, l2]; exact hn) hr (by omega) (by omega) (fun r hr => ?_)).mono ?_
  · rw [bs_size, l1] at hr
    exact Nat.le_trans (hf.le r (by omega)) hn
  · rintro en w' ⟨rfl, hb⟩
    exact ⟨_, ⟨f, f2, hf, hf2, rfl⟩, rfl, hb⟩

set_option maxRecDepth 10000 in
theorem build_ok (s : ByteArray) (rate : Nat) (w : World) (hn : s.size ≤ 2000) (hr0 : 1 ≤ rate) (hr : rate ≤ 64) :
    Calls Try.prog 22 #[.string s, .int .i64 (rate : Int)] w fun en w' => ∃ im, IsImg (tx s) rate im ∧ en = .returned (.tuple #[.string (bs im), .int .i64 0]) ∧ Below w.heap.size w w' := by
  go_enter Try.func22, Try.ntmps22
  go_wp2_with fail
  refine (indexOf_any s rate w hn (by omega)).mono ?_
  rintro en w1 ⟨g, rfl, hI, hb1⟩
  go_wp2_with fail
  refine (image_of w1 g rate (tx s) hI (by rw [tx_length]; exact hn) hr).mono ?_
  rintro en w2 ⟨im, hIm, rfl, hb2⟩
  go_wp2
  go_ret2
  exact ⟨im, hIm, rfl, hb1.trans (hb2.mono hb1.size)⟩
set_option maxRecDepth 10000 in
theorem build_long (s : ByteArray) (x : Int) (w : World) (hm : s.size ≤ maxLen) (hn : 2000 < s.size) :
    Calls Try.prog 22 #[.string s, .int .i64 x] w fun en w' => en = .returned (.tuple #[.string ByteArray.empty, .int .i64 1]) ∧ w' = w := by
  unfold maxLen at hm
  go_enter Try.func22, Try.ntmps22
  go_wp2
  go_ret2
  exact ⟨rfl, rfl⟩
set_option maxRecDepth 10000 in
theorem build_rate (s : ByteArray) (x : Int) (w : World) (hn : s.size ≤ 2000) (hx : x < 1 ∨ 64 < x) :
    Calls Try.prog 22 #[.string s, .int .i64 x] w fun en w' => en = .returned (.tuple #[.string ByteArray.empty, .int .i64 2]) ∧ w' = w := by
  rcases hx with h | h
  · have hd : decide (x < 1) = true := by simpa using h
    go_enter Try.func22, Try.ntmps22
    go_wp2_with fail
    go_ret2
    exact ⟨rfl, rfl⟩
  · have hd : decide (x < 1) = false := by simp; omega
    have hd2 : decide (64 < x) = true := by simpa using h
    go_enter Try.func22, Try.ntmps22
    go_wp2_with fail
    go_ret2
    exact ⟨rfl, rfl⟩

/-- Only one block has changed. -/
def Only (g : Nat) (w w' : World) : Prop := w'.heap.size = w.heap.size ∧ (∀ b, b ≠ g → w'.heap[b]? = w.heap[b]?) ∧ Below g w w'
theorem Only.refl (g : Nat) (w : World) : Only g w w := ⟨rfl, fun _ _ => rfl, Below.refl _ _⟩
theorem Only.trans {g : Nat} {a b c : World} (h : Only g a b) (h' : Only g b c) : Only g a c := ⟨h'.1.trans h.1, fun x hx => (h'.2.1 x hx).trans (h.2.1 x hx), h.2.2.trans h'.2.2⟩
theorem Only.set (g j : Nat) (w : World) (u : Value) : Only g w (w.setCell ⟨g, j, none⟩ u) := by
  refine ⟨by simp, fun b hb => Below.heap_setCell w ⟨g, j, none⟩ u b hb, ?_⟩
  exact (Below.refl g w).setCell (by show g ≤ g; omega) u

/-- A reader, in memory. -/
def Rdr (w : World) (g : Nat) (s : ByteArray) (sh : Bool) : Prop := Blk w g 124 #[.string s, .bool sh]

set_option maxRecDepth 10000 in
theorem take_short (g c : Nat) (s : ByteArray) (sh : Bool) (w : World) (h : Rdr w g s sh) (hs : sh = true ∨ s.size < c) :
    Calls Try.prog 84 #[.pointer (some ⟨g, 0, none⟩), .int .i64 (c : Int)] w fun e w' => e = .returned (.string ByteArray.empty) ∧ Rdr w' g s true ∧ Only g w w' := by
  have hc0 : w.cell? ⟨g, 0, none⟩ = some (.string s) := h.cell 0
  have hc1 : w.cell? ⟨g, 1, none⟩ = some (.bool sh) := h.cell 1
  have hf1 := h.free 1
  have hR : Rdr (w.setCell ⟨g, 1, none⟩ (.bool true)) g s true := h.set 1 _
  cases sh with
  | true =>
    clear hs
    go_enter Try.func84, Try.ntmps84
    go_wp2_with fail
    go_ret
    exact ⟨rfl, hR, Only.set _ _ _ _⟩
  | false =>
    have hlt : s.size < c := by simpa using hs
    clear hs
    go_enter Try.func84, Try.ntmps84
    go_wp2_with fail
    go_ret
    exact ⟨rfl, hR, Only.set _ _ _ _⟩
set_option maxRecDepth 10000 in
set_option maxHeartbeats 400000 in
theorem take_long (g c : Nat) (s : ByteArray) (w : World) (h : Rdr w g s false) (hs : c ≤ s.size) :
    Calls Try.prog 84 #[.pointer (some ⟨g, 0, none⟩), .int .i64 (c : Int)] w fun e w' => e = .returned (.string (s.extract 0 c)) ∧ Rdr w' g (s.extract c s.size) false ∧ Only g w w' := by
  have hc0 : w.cell? ⟨g, 0, none⟩ = some (.string s) := h.cell 0
  have hc1 : w.cell? ⟨g, 1, none⟩ = some (.bool false) := h.cell 1
  have hf0 := h.free 0
  have hq1 : (0 : Int) ≤ (c : Int) := by omega
  have hq2 : (c : Int) ≤ (s.size : Int) := by omega
  go_enter Try.func84, Try.ntmps84
  go_wp2_with fail
  go_ret
  exact ⟨rfl, h.set 0 _, Only.set _ _ _ _⟩

theorem ext_get (s : ByteArray) (c j : Nat) (hj : j < c) (hc : c ≤ s.size) (h : j < (s.extract 0 c).size) : (s.extract 0 c)[j] = s[j] := by
  simp [ByteArray.getElem_extract]
theorem ext_size (s : ByteArray) (c : Nat) (hc : c ≤ s.size) : (s.extract 0 c).size = c := by simp [ByteArray.size_extract]; omega

set_option maxRecDepth 10000 in
theorem byte_short (g : Nat) (s : ByteArray) (sh : Bool) (w : World) (h : Rdr w g s sh) (hs : sh = true ∨ s.size < 1) :
    Calls Try.prog 83 #[.pointer (some ⟨g, 0, none⟩)] w fun e w' => e = .returned (.int .i64 0) ∧ Rdr w' g s true ∧ Only g w w' := by
  go_enter Try.func83, Try.ntmps83
  go_wp2_with fail
  refine (take_short g 1 s sh w h hs).mono ?_
  rintro e w1 ⟨rfl, hR, hO⟩
  have hc1 : w1.cell? ⟨g, 1, none⟩ = some (.bool true) := hR.cell 1
  go_wp2
  go_ret
  exact ⟨rfl, hR, hO⟩
set_option maxRecDepth 10000 in
theorem byte_long (g : Nat) (s : ByteArray) (w : World) (h : Rdr w g s false) (hs : 1 ≤ s.size) :
    Calls Try.prog 83 #[.pointer (some ⟨g, 0, none⟩)] w fun e w' => e = .returned (.int .i64 ((s[0]).toNat : Int)) ∧ Rdr w' g (s.extract 1 s.size) false ∧ Only g w w' := by
  have hz := ext_size s 1 hs
  have HG : Hid ((s.extract 0 1)[0] = s[0]) := ext_get s 1 0 (by omega) hs (by omega)
  go_enter Try.func83, Try.ntmps83
  go_wp2_with fail
  refine (take_long g 1 s w h hs).mono ?_
  rintro e w1 ⟨rfl, hR, hO⟩
  have hc1 : w1.cell? ⟨g, 1, none⟩ = some (.bool false) := hR.cell 1
  have hby := (s.extract 0 1)[0].toNat_lt
  go_wp2
  go_ret
  exact ⟨by rw [← HG.out]; rfl, hR, hO⟩
set_option maxRecDepth 10000 in
theorem number_short (g : Nat) (s : ByteArray) (sh : Bool) (w : World) (h : Rdr w g s sh) (hs : sh = true ∨ s.size < 2) :
    Calls Try.prog 85 #[.pointer (some ⟨g, 0, none⟩)] w fun e w' => e = .returned (.int .i64 0) ∧ Rdr w' g s true ∧ Only g w w' := by
  go_enter Try.func85, Try.ntmps85
  go_wp2_with fail
  refine (take_short g 2 s sh w h hs).mono ?_
  rintro e w1 ⟨rfl, hR, hO⟩
  have hc1 : w1.cell? ⟨g, 1, none⟩ = some (.bool true) := hR.cell 1
  go_wp2
  go_ret
  exact ⟨rfl, hR, hO⟩
set_option maxRecDepth 10000 in
set_option maxHeartbeats 400000 in
theorem number_long (g : Nat) (s : ByteArray) (w : World) (h : Rdr w g s false) (hs : 2 ≤ s.size) :
    Calls Try.prog 85 #[.pointer (some ⟨g, 0, none⟩)] w fun e w' => e = .returned (.int .i64 (((s[0]).toNat * 256 + (s[1]).toNat : Nat) : Int)) ∧ Rdr w' g (s.extract 2 s.size) false ∧ Only g w w' := by
  have hz := ext_size s 2 hs
  have HG : Hid ((s.extract 0 2)[0] = s[0]) := ext_get s 2 0 (by omega) hs (by omega)
  have HG1 : Hid ((s.extract 0 2)[1] = s[1]) := ext_get s 2 1 (by omega) hs (by omega)
  go_enter Try.func85, Try.ntmps85
  go_wp2_with fail
  refine (take_long g 2 s w h hs).mono ?_
  rintro e w1 ⟨rfl, hR, hO⟩
  have hc1 : w1.cell? ⟨g, 1, none⟩ = some (.bool false) := hR.cell 1
  have hby := (s.extract 0 2)[0].toNat_lt
  have hby1 := (s.extract 0 2)[1].toNat_lt
  have HV : Hid (bits BinOp.or IntKind.i64 (((s.extract 0 2)[0].toNat : Int) * 256) ((s.extract 0 2)[1].toNat : Int) = (((s[0]).toNat * 256 + (s[1]).toNat : Nat) : Int)) := by
    show bits BinOp.or IntKind.i64 (((s.extract 0 2)[0].toNat : Int) * 256) ((s.extract 0 2)[1].toNat : Int) = _
    rw [HG.out, HG1.out]
    have hb0 := (s[0]).toNat_lt
    have hb1 := (s[1]).toNat_lt
    have e1 : ((s[0]).toNat : Int) * (256 : Int) = (((s[0]).toNat * 256 : Nat) : Int) := by omega
    rw [e1, (bits_nat .i64 63 (by decide) (fun n h1 h2 => by rw [IntKind.wrap_i64]; omega) _ _ (by omega) (by omega)).2]
    have := Nat.two_pow_add_eq_or_of_lt (i := 8) (b := (s[1]).toNat) (by omega) (s[0]).toNat
    rw [show (s[0]).toNat * 256 = 2 ^ 8 * (s[0]).toNat from by omega, ← this]
  clear HG HG1
  have hO2 : ∀ q, Only g w (w1.drewN q) := fun q => ⟨hO.1, hO.2.1, bdrewN hO.2.2 q⟩
  go_wp2_with fail
  go_quiet (fail)
  go_wp2
  go_ret
  exact ⟨by rw [← HV.out]; rfl, hR, hO2 _⟩
end Go.Proofs.Ytkebgnpifmcmaaa
