import Derived.Test.YtkebgnpifmcmaaaGreatGK
import Derived.Test.YtkebgnpifmcmaaaGreatGJ
import Derived.Test.YtkebgnpifmcmaaaGreatGG
namespace Go.Proofs.YtkebgnpifmcmaaaGreat
open Go.RowKit

/-- A pair and an error. -/
def PRes (a b c n : Int) (w : World) (e : Ending) (w' : World) : Prop := e = .returned (.tuple #[.agg #[.int .i64 a, .int .i64 b, .int .i64 c], .int .i64 n]) ∧ Below w.heap.size w w'

/-- What 'grow' is asked for. -/
def GrowQ (im : ByteArray) (lo hi bk c : Int) (side : Int) (a b d n : Int) : Prop :=
  (¬ Reads im ∧ a = 0 ∧ b = 0 ∧ d = 0 ∧ n = 4) ∨
  (Reads im ∧ ¬ (0 ≤ c ∧ c ≤ 255 ∧ PairOk (imT im).length lo hi bk) ∧ a = 0 ∧ b = 0 ∧ d = 0 ∧ n = 5) ∨
  (Reads im ∧ ∃ l u k b' : Nat, lo = (l : Int) ∧ hi = (u : Int) ∧ bk = (k : Int) ∧ c = (b' : Int) ∧ b' < 256 ∧ l ≤ u ∧ u ≤ (imT im).length + 1 ∧ k + (u - l) ≤ (imT im).length + 1 ∧ n = 0 ∧
    ((side = 0 ∧ ∃ f, IsSA (imT im) f ∧ leftV (imT im) f l u k b' = .agg #[.int .i64 a, .int .i64 b, .int .i64 d]) ∨
     (side = 1 ∧ ∃ f2, IsSA (imT im).reverse f2 ∧ rightV (imT im).reverse f2 l u k b' = .agg #[.int .i64 a, .int .i64 b, .int .i64 d])))

def GrowRes (im : ByteArray) (lo hi bk c : Int) (side : Int) (w : World) (e : Ending) (w' : World) : Prop := ∃ a b d n, GrowQ im lo hi bk c side a b d n ∧ PRes a b d n w e w'

end Go.Proofs.YtkebgnpifmcmaaaGreat

namespace Go.Proofs.YtkebgnpifmcmaaaGreat
open Go.RowKit

/-- What 'Rank' is asked for. -/
def RankQ (im : ByteArray) (c row : Int) (a b n : Int) : Prop :=
  (¬ Reads im ∧ a = 0 ∧ b = 0 ∧ n = 4) ∨
  (Reads im ∧ ¬ (0 ≤ c ∧ c ≤ 255 ∧ 0 ≤ row ∧ row ≤ ((imT im).length : Int) + 1) ∧ a = 0 ∧ b = 0 ∧ n = 5) ∨
  (Reads im ∧ ∃ b' r : Nat, c = (b' : Int) ∧ row = (r : Int) ∧ b' < 256 ∧ r ≤ (imT im).length + 1 ∧ n = 0 ∧ ∃ f, IsSA (imT im) f ∧ a = ((cntI (aheadV (imT im) f) b' r : Nat) : Int) ∧ b = ((lessI (aheadV (imT im) f) b' r : Nat) : Int))
def RankRes (im : ByteArray) (c row : Int) (w : World) (e : Ending) (w' : World) : Prop := ∃ a b n, RankQ im c row a b n ∧ e = .returned (.tuple #[.int .i64 a, .int .i64 b, .int .i64 n]) ∧ Below w.heap.size w w'

end Go.Proofs.YtkebgnpifmcmaaaGreat

namespace Go.Proofs.YtkebgnpifmcmaaaGreat
open Go.RowKit

theorem imT_le {im : ByteArray} (h : Reads im) (w : World) : (imT im).length ≤ 2000 := (reads_isImg h w).2.1

end Go.Proofs.YtkebgnpifmcmaaaGreat

namespace Go.Proofs.YtkebgnpifmcmaaaGreat
open Go.RowKit

theorem wf_bounds {x : Int} (h : (Lit.int .i64 x).wf = true) : -9223372036854775808 ≤ x ∧ x ≤ 9223372036854775807 := by
  simp only [Lit.wf, IntKind.min, IntKind.max, IntKind.signed, IntKind.bits, Bool.and_eq_true, decide_eq_true_eq, if_true] at h
  omega

/-- An image that 'Build' made. -/
def Img (im : ByteArray) (s : ByteArray) (rate : Nat) : Prop := Reads im ∧ imT im = tx s ∧ imR im = rate
theorem build_rd (s : ByteArray) (rate : Nat) (w : World) (hn : s.size ≤ 2000) (hr0 : 1 ≤ rate) (hr : rate ≤ 64) :
    Calls Tryz.prog 17 #[.string s, .int .i64 (rate : Int)] w fun en w' => ∃ im, Img im s rate ∧ en = .returned (.tuple #[.string im, .int .i64 0]) ∧ Below w.heap.size w w' := by
  refine (build_ok s rate w hn hr0 hr).mono ?_
  rintro en w' ⟨im, him, rfl, hb⟩
  exact ⟨bs im, reads_img him (by rw [tx_length]; exact hn) hr0 hr, rfl, hb⟩

def MadeRes (w : World) (e : Ending) (w' : World) : Prop := ∃ im s rate, Img im s rate ∧ s.size ≤ 2000 ∧ e = .returned (.tuple #[.string im, .string s, .bool true]) ∧ Below w.heap.size w w'

set_option maxRecDepth 10000 in
set_option maxHeartbeats 1000000 in
theorem made_nat (s : ByteArray) (r : Nat) (w : World) (hm : s.size ≤ maxLen) (hr : r ≤ 9223372036854775807) :
    Calls Tryz.prog 6 #[.string s, .int .i64 (r : Int)] w (MadeRes w) := by
  unfold maxLen at hm
  have hq : (r : Int).tmod 64 = ((r % 64 : Nat) : Int) := by rw [Int.tmod_eq_emod_of_nonneg (by omega)]; omega
  have hq2 : (r : Int) % 64 = ((r % 64 : Nat) : Int) := by omega
  have hlt : r % 64 < 64 := Nat.mod_lt _ (by decide)
  have HB : Hid (∀ (t : ByteArray), t.size ≤ 2000 → ∀ w, Calls Tryz.prog 17 #[.string t, .int .i64 (1 + ((r % 64 : Nat) : Int))] w fun en w' => ∃ im, Img im t (1 + r % 64) ∧ en = .returned (.tuple #[.string im, .int .i64 0]) ∧ Below w.heap.size w w') := fun t ht w => by
    have := build_rd t (1 + r % 64) w ht (by omega) (by omega)
    rw [Int.natCast_add] at this
    exact this
  generalize r % 64 = q at *
  by_cases h1 : 2000 < s.size
  · have hsz : (s.extract 0 2000).size ≤ 2000 := by simp [ByteArray.size_extract]; omega
    go_enter Tryz.func6, Tryz.ntmps6
    go_wp2_with fail
    refine Calls.mono (HB.out _ hsz _) ?_
    clear HB
    rintro en w1 ⟨im, hI, rfl, hb⟩
    have HI : Hid (Img im (s.extract 0 2000) (1 + q)) := hI
    clear hI
    go_wp2
    go_ret3
    exact ⟨_, _, _, HI.out, hsz, rfl, hb⟩
  · have h1' : s.size ≤ 2000 := by omega
    go_enter Tryz.func6, Tryz.ntmps6
    go_wp2_with fail
    refine Calls.mono (HB.out _ h1' _) ?_
    clear HB
    rintro en w1 ⟨im, hI, rfl, hb⟩
    have HI : Hid (Img im s (1 + q)) := hI
    clear hI
    go_wp2
    go_ret3
    exact ⟨_, _, _, HI.out, h1', rfl, hb⟩

set_option maxRecDepth 10000 in
set_option maxHeartbeats 1000000 in
theorem made_neg (s : ByteArray) (x : Int) (w : World) (hm : s.size ≤ maxLen) (hx : x < 0) (hx2 : -9223372036854775808 ≤ x) :
    Calls Tryz.prog 6 #[.string s, .int .i64 x] w (MadeRes w) := by
  unfold maxLen at hm
  obtain ⟨r, hr⟩ : ∃ r : Nat, -(x + 1) = (r : Int) := ⟨(-(x + 1)).toNat, by omega⟩
  have d0 : decide (x < 0) = true := by simpa using hx
  have hq : (r : Int).tmod 64 = ((r % 64 : Nat) : Int) := by rw [Int.tmod_eq_emod_of_nonneg (by omega)]; omega
  have hq2 : (r : Int) % 64 = ((r % 64 : Nat) : Int) := by omega
  have hlt : r % 64 < 64 := Nat.mod_lt _ (by decide)
  have HB : Hid (∀ (t : ByteArray), t.size ≤ 2000 → ∀ w, Calls Tryz.prog 17 #[.string t, .int .i64 (1 + ((r % 64 : Nat) : Int))] w fun en w' => ∃ im, Img im t (1 + r % 64) ∧ en = .returned (.tuple #[.string im, .int .i64 0]) ∧ Below w.heap.size w w') := fun t ht w => by
    have := build_rd t (1 + r % 64) w ht (by omega) (by omega)
    rw [Int.natCast_add] at this
    exact this
  obtain ⟨q, hqd⟩ : ∃ q, q = r % 64 := ⟨_, rfl⟩
  rw [← hqd] at hq hq2 hlt HB
  clear hqd
  by_cases h1 : 2000 < s.size
  · have hsz : (s.extract 0 2000).size ≤ 2000 := by simp [ByteArray.size_extract]; omega
    go_enter Tryz.func6, Tryz.ntmps6
    go_wp2_with fail
    refine Calls.mono (HB.out _ hsz _) ?_
    clear HB
    rintro en w1 ⟨im, hI, rfl, hb⟩
    have HI : Hid (Img im (s.extract 0 2000) (1 + q)) := hI
    clear hI
    go_wp2
    go_ret3
    exact ⟨_, _, _, HI.out, hsz, rfl, hb⟩
  · have h1' : s.size ≤ 2000 := by omega
    go_enter Tryz.func6, Tryz.ntmps6
    go_wp2_with fail
    refine Calls.mono (HB.out _ h1' _) ?_
    clear HB
    rintro en w1 ⟨im, hI, rfl, hb⟩
    have HI : Hid (Img im s (1 + q)) := hI
    clear hI
    go_wp2
    go_ret3
    exact ⟨_, _, _, HI.out, h1', rfl, hb⟩

theorem made_any (s : ByteArray) (x : Int) (w : World) (hm : s.size ≤ maxLen) (hx : (Lit.int .i64 x).wf = true) :
    Calls Tryz.prog 6 #[.string s, .int .i64 x] w (MadeRes w) := by
  obtain ⟨h1, h2⟩ := wf_bounds hx
  by_cases h : x < 0
  · exact made_neg s x w hm h h1
  · obtain ⟨r, rfl⟩ : ∃ r : Nat, x = (r : Int) := ⟨x.toNat, by omega⟩
    exact made_nat s r w hm (by omega)

/-- What 'told' answers. -/
def ToldRes (im : ByteArray) (w : World) (e : Ending) (w' : World) : Prop :=
  ((Reads im ∧ e = .returned (.tuple #[.string (bs (imT im)), .bool true, .bool true])) ∨ (¬ Reads im ∧ e = .returned (.tuple #[.string { data := #[] }, .bool false, .bool true]))) ∧ Below w.heap.size w w'

/-- There is one image of a text and a rate. -/
theorem img_unique {t : List UInt8} {rate : Nat} {a b : List UInt8} (h : IsImg t rate a) (h' : IsImg t rate b) (_hn : t.length ≤ 2000) : a = b := by
  obtain ⟨f, f2, F, F2, rfl⟩ := h
  obtain ⟨f', f2', F', F2', rfl⟩ := h'
  have e1 := pre_congr (t := t) (f := f) (g := f') (k := t.length + 1) (fun j hj => F.unique F' j (by omega))
  have e2 := pre_congr (t := t.reverse) (f := f2) (g := f2') (k := t.length + 1) (fun j hj => F2.unique F2' j (by rw [List.length_reverse]; omega))
  rw [e1.1, e1.2, e2.1, e2.2]
  rw [bodyB_congr _ _ _ _ _ (f := f) (g := f') (fun i hi => F.unique F' i (by
    have hl := bwt_length F'
    rw [bs_size, hl] at hi; omega))]

end Go.Proofs.YtkebgnpifmcmaaaGreat
