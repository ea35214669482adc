/-
  No cell of these rows narrows 'for every input' (looked for: loops, veiled, ifaces, maps, wideKeys, modest, calm, conditions, laid).
  DERIVED. THE GIVEN ROWS OF THIS SEAT. 6 by the template 'for every input the law returns true; each argument reads behind the call as it read before'; 0 by the template 'total and deterministic' (their statements: YtkebgnpifmcmaabGreatTotals.lean).
  GIVEN WITH THE SEED: the statements are not yours to turn. If you find one false, say at which input.
  Laid BY PROGRAM, IN A SANDBOX (cutbox-rows.mjs): the forced cells as the released guide's own fill.sh prints them over the translation cf8cab3567d504dd… (all of the seat's roots in one cut). By AI agents, Wed Nov 11 2026. No macro, syntax, notation, axiom, sorry.
-/
import Derived.Test.YtkebgnpifmcmaabGreatChecked
import GoSem.Claim
import GoSem.ClaimJoined
import GoSem.ClaimMapViews
import Derived.JoinedTies
import Derived.KernelRfl
namespace Go.Proofs.YtkebgnpifmcmaabGreat
/- THE CELL 'sum', in the pinned program and in every row, IS THE sha256 OF THE DUMP (.gsa) THAT YtkebgnpifmcmaabGreatProg.lean LOADS. Nothing in Lean hashes anything: it is a label: what it is worth is what the hold of that sum in a sandbox is worth. -/
noncomputable def Tryz.pinned : Pinned := { name := "ytkebgnpifmcmaabgreat", sum := "cf8cab3567d504dd31ebd45de83587bfcbc4bbf74f41bc4c652e31feb625a4b1", checked := Tryz.checked }
namespace Rows
def none {H : Type} : Left H := { results := [], args := [] }

/-- 'seekerlaw.Wrongs': WHATEVER THE INPUT: true; the input reads as it did. -/
def wrongsSpec : ChangeSpec := { name := "wrongs", fn := fun _ => fun
  | [d1, d2, d3, d4] => { results := [.lit (.bool true)], args := [d1, d2, d3, d4] }
  | _ => none }
def wrongsRow : OpenClaim := { program := "ytkebgnpifmcmaabgreat", sum := "cf8cab3567d504dd31ebd45de83587bfcbc4bbf74f41bc4c652e31feb625a4b1", func := "seeker/seekerlaw.Wrongs", spec := "wrongs", unfollowed := true, recurses := true, apart := false }
def WrongsSaid : Prop := wrongsRow.holds Tryz.pinned (OpenSpec.ofChange wrongsSpec)

/-- ITS FALSE NEIGHBOUR: 'it returns false'. Refute it at one input. -/
def wrongsWrong : ChangeSpec := { name := "wrongs", fn := fun _ => fun
  | [d1, d2, d3, d4] => { results := [.lit (.bool false)], args := [d1, d2, d3, d4] }
  | _ => none }
def WrongsWrongFalsely : Prop := wrongsRow.holds Tryz.pinned (OpenSpec.ofChange wrongsWrong)

/-- 'seekerlaw.Editions': WHATEVER THE INPUT: true; the input reads as it did. -/
def editionsSpec : ChangeSpec := { name := "editions", fn := fun _ => fun
  | [d1, d2, d3, d4] => { results := [.lit (.bool true)], args := [d1, d2, d3, d4] }
  | _ => none }
def editionsRow : OpenClaim := { program := "ytkebgnpifmcmaabgreat", sum := "cf8cab3567d504dd31ebd45de83587bfcbc4bbf74f41bc4c652e31feb625a4b1", func := "seeker/seekerlaw.Editions", spec := "editions", unfollowed := true, recurses := true, apart := false }
def EditionsSaid : Prop := editionsRow.holds Tryz.pinned (OpenSpec.ofChange editionsSpec)

/-- ITS FALSE NEIGHBOUR: 'it returns false'. Refute it at one input. -/
def editionsWrong : ChangeSpec := { name := "editions", fn := fun _ => fun
  | [d1, d2, d3, d4] => { results := [.lit (.bool false)], args := [d1, d2, d3, d4] }
  | _ => none }
def EditionsWrongFalsely : Prop := editionsRow.holds Tryz.pinned (OpenSpec.ofChange editionsWrong)

/-- 'seekerkeep.Nearer': WHATEVER THE INPUT: true; the input reads as it did. -/
def nearerSpec : ChangeSpec := { name := "nearer", fn := fun _ => fun
  | [d1, d2, d3, d4, d5, d6] => { results := [.lit (.bool true)], args := [d1, d2, d3, d4, d5, d6] }
  | _ => none }
def nearerRow : OpenClaim := { program := "ytkebgnpifmcmaabgreat", sum := "cf8cab3567d504dd31ebd45de83587bfcbc4bbf74f41bc4c652e31feb625a4b1", func := "seeker/seekerkeep.Nearer", spec := "nearer", unfollowed := true, recurses := true, apart := false }
def NearerSaid : Prop := nearerRow.holds Tryz.pinned (OpenSpec.ofChange nearerSpec)

/-- ITS FALSE NEIGHBOUR: 'it returns false'. Refute it at one input. -/
def nearerWrong : ChangeSpec := { name := "nearer", fn := fun _ => fun
  | [d1, d2, d3, d4, d5, d6] => { results := [.lit (.bool false)], args := [d1, d2, d3, d4, d5, d6] }
  | _ => none }
def NearerWrongFalsely : Prop := nearerRow.holds Tryz.pinned (OpenSpec.ofChange nearerWrong)

/-- 'seekerkeep.Planted': WHATEVER THE INPUT: true; the input reads as it did. -/
def plantedSpec : ChangeSpec := { name := "planted", fn := fun _ => fun
  | [d1, d2, d3, d4, d5, d6] => { results := [.lit (.bool true)], args := [d1, d2, d3, d4, d5, d6] }
  | _ => none }
def plantedRow : OpenClaim := { program := "ytkebgnpifmcmaabgreat", sum := "cf8cab3567d504dd31ebd45de83587bfcbc4bbf74f41bc4c652e31feb625a4b1", func := "seeker/seekerkeep.Planted", spec := "planted", unfollowed := true, recurses := true, apart := false }
def PlantedSaid : Prop := plantedRow.holds Tryz.pinned (OpenSpec.ofChange plantedSpec)

/-- ITS FALSE NEIGHBOUR: 'it returns false'. Refute it at one input. -/
def plantedWrong : ChangeSpec := { name := "planted", fn := fun _ => fun
  | [d1, d2, d3, d4, d5, d6] => { results := [.lit (.bool false)], args := [d1, d2, d3, d4, d5, d6] }
  | _ => none }
def PlantedWrongFalsely : Prop := plantedRow.holds Tryz.pinned (OpenSpec.ofChange plantedWrong)

/-- 'seekerlaw.Fresh': WHATEVER THE INPUT: true; the input reads as it did. -/
def freshSpec : ChangeSpec := { name := "fresh", fn := fun _ => fun
  | [d1, d2, d3, d4] => { results := [.lit (.bool true)], args := [d1, d2, d3, d4] }
  | _ => none }
def freshRow : OpenClaim := { program := "ytkebgnpifmcmaabgreat", sum := "cf8cab3567d504dd31ebd45de83587bfcbc4bbf74f41bc4c652e31feb625a4b1", func := "seeker/seekerlaw.Fresh", spec := "fresh", unfollowed := true, recurses := true, apart := false }
def FreshSaid : Prop := freshRow.holds Tryz.pinned (OpenSpec.ofChange freshSpec)

/-- ITS FALSE NEIGHBOUR: 'it returns false'. Refute it at one input. -/
def freshWrong : ChangeSpec := { name := "fresh", fn := fun _ => fun
  | [d1, d2, d3, d4] => { results := [.lit (.bool false)], args := [d1, d2, d3, d4] }
  | _ => none }
def FreshWrongFalsely : Prop := freshRow.holds Tryz.pinned (OpenSpec.ofChange freshWrong)

/-- 'seekerlaw.All': WHATEVER THE INPUT: true; the input reads as it did. -/
def allSpec : ChangeSpec := { name := "all", fn := fun _ => fun
  | [d1, d2, d3, d4, d5, d6, d7, d8] => { results := [.lit (.bool true)], args := [d1, d2, d3, d4, d5, d6, d7, d8] }
  | _ => none }
def allRow : OpenClaim := { program := "ytkebgnpifmcmaabgreat", sum := "cf8cab3567d504dd31ebd45de83587bfcbc4bbf74f41bc4c652e31feb625a4b1", func := "seeker/seekerlaw.All", spec := "all", unfollowed := true, recurses := true, apart := false }
def AllSaid : Prop := allRow.holds Tryz.pinned (OpenSpec.ofChange allSpec)

/-- ITS FALSE NEIGHBOUR: 'it returns false'. Refute it at one input. -/
def allWrong : ChangeSpec := { name := "all", fn := fun _ => fun
  | [d1, d2, d3, d4, d5, d6, d7, d8] => { results := [.lit (.bool false)], args := [d1, d2, d3, d4, d5, d6, d7, d8] }
  | _ => none }
def AllWrongFalsely : Prop := allRow.holds Tryz.pinned (OpenSpec.ofChange allWrong)

/- THE SECOND FORM. 'bulk': how many values and letters a reading holds, each counted each time it is reached (what is shared counts as often as it is met; a slice's spare places count too). A statement '..UptoSaid' is the law's where the arguments, and the package variables that the reading takes, are together of bulk at most 1048576: NARROWER than '..Said'. Prove '..Said' where nothing that the law and all that it calls make is longer than what came in: it says more and counts as full. Else prove '..UptoSaid'. A law counts once. -/
mutual
def uptoBulk {H : Type} : DataW H → Nat
  | .lit (.string bytes) => bytes.length + 1
  | .lit _ => 1
  | .nil => 1
  | .ptr d => uptoBulk d + 1
  | .slice elems spare => uptoBulkAll elems + uptoBulkAll spare + 1
  | .agg parts => uptoBulkAll parts + 1
  | .iface _ d => uptoBulk d + 1
  | .map entries => uptoBulkEntries entries + 1
  | .held _ => 1
def uptoBulkAll {H : Type} : List (DataW H) → Nat
  | [] => 0
  | d :: r => uptoBulk d + uptoBulkAll r
def uptoBulkEntries {H : Type} : List (Lit × DataW H) → Nat
  | [] => 0
  | x :: r => uptoBulkEntry x + uptoBulkEntries r
def uptoBulkEntry {H : Type} : Lit × DataW H → Nat
  | (.string bytes, d) => bytes.length + uptoBulk d + 1
  | (_, d) => uptoBulk d + 1
 end
def uptoSmall : (H : Type) → List (DataW H) → Bool := fun _ ds => decide (uptoBulkAll ds ≤ 1048576)
def OpenSpec.upto (s : _root_.Go.ChangeSpec) : _root_.Go.OpenSpec := { _root_.Go.OpenSpec.ofChange s with cond := some uptoSmall }

/-- 'seekerlaw.Wrongs', WHERE WHAT IT READS IS OF BULK AT MOST 1048576: true; the input reads as it did. -/
def wrongsUptoRow : OpenClaim := { program := "ytkebgnpifmcmaabgreat", sum := "cf8cab3567d504dd31ebd45de83587bfcbc4bbf74f41bc4c652e31feb625a4b1", func := "seeker/seekerlaw.Wrongs", spec := "wrongs", unfollowed := true, recurses := true, apart := false, narrowed := true }
def WrongsUptoSaid : Prop := wrongsUptoRow.holds Tryz.pinned (OpenSpec.upto wrongsSpec)

/-- 'seekerlaw.Editions', WHERE WHAT IT READS IS OF BULK AT MOST 1048576: true; the input reads as it did. -/
def editionsUptoRow : OpenClaim := { program := "ytkebgnpifmcmaabgreat", sum := "cf8cab3567d504dd31ebd45de83587bfcbc4bbf74f41bc4c652e31feb625a4b1", func := "seeker/seekerlaw.Editions", spec := "editions", unfollowed := true, recurses := true, apart := false, narrowed := true }
def EditionsUptoSaid : Prop := editionsUptoRow.holds Tryz.pinned (OpenSpec.upto editionsSpec)

/-- 'seekerkeep.Nearer', WHERE WHAT IT READS IS OF BULK AT MOST 1048576: true; the input reads as it did. -/
def nearerUptoRow : OpenClaim := { program := "ytkebgnpifmcmaabgreat", sum := "cf8cab3567d504dd31ebd45de83587bfcbc4bbf74f41bc4c652e31feb625a4b1", func := "seeker/seekerkeep.Nearer", spec := "nearer", unfollowed := true, recurses := true, apart := false, narrowed := true }
def NearerUptoSaid : Prop := nearerUptoRow.holds Tryz.pinned (OpenSpec.upto nearerSpec)

/-- 'seekerkeep.Planted', WHERE WHAT IT READS IS OF BULK AT MOST 1048576: true; the input reads as it did. -/
def plantedUptoRow : OpenClaim := { program := "ytkebgnpifmcmaabgreat", sum := "cf8cab3567d504dd31ebd45de83587bfcbc4bbf74f41bc4c652e31feb625a4b1", func := "seeker/seekerkeep.Planted", spec := "planted", unfollowed := true, recurses := true, apart := false, narrowed := true }
def PlantedUptoSaid : Prop := plantedUptoRow.holds Tryz.pinned (OpenSpec.upto plantedSpec)

/-- 'seekerlaw.Fresh', WHERE WHAT IT READS IS OF BULK AT MOST 1048576: true; the input reads as it did. -/
def freshUptoRow : OpenClaim := { program := "ytkebgnpifmcmaabgreat", sum := "cf8cab3567d504dd31ebd45de83587bfcbc4bbf74f41bc4c652e31feb625a4b1", func := "seeker/seekerlaw.Fresh", spec := "fresh", unfollowed := true, recurses := true, apart := false, narrowed := true }
def FreshUptoSaid : Prop := freshUptoRow.holds Tryz.pinned (OpenSpec.upto freshSpec)

/-- 'seekerlaw.All', WHERE WHAT IT READS IS OF BULK AT MOST 1048576: true; the input reads as it did. -/
def allUptoRow : OpenClaim := { program := "ytkebgnpifmcmaabgreat", sum := "cf8cab3567d504dd31ebd45de83587bfcbc4bbf74f41bc4c652e31feb625a4b1", func := "seeker/seekerlaw.All", spec := "all", unfollowed := true, recurses := true, apart := false, narrowed := true }
def AllUptoSaid : Prop := allUptoRow.holds Tryz.pinned (OpenSpec.upto allSpec)

end Rows
end Go.Proofs.YtkebgnpifmcmaabGreat
