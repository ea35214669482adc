/-
  No cell of these rows narrows 'for every input' (looked for: loops, veiled, ifaces, maps, wideKeys, modest, calm, conditions, laid).
  DERIVED. THE GIVEN ROWS OF THIS SEAT. 9 by the template 'for every input the law returns true; each argument reads behind the call as it read before'; 0 by the template 'total and deterministic' (their statements: YtkebgnpifmcmaaaTotals.lean).
  GIVEN WITH THE SEED: the statements are not yours to turn. If you find one false, say at which input.
  Laid BY PROGRAM, IN A SANDBOX (cutbox-rows.mjs): the forced cells as the released guide's own fill.sh prints them over the translation bc5712df9e9ae33e… (all of the seat's roots in one cut). By AI agents, Wed Nov 11 2026. No macro, syntax, notation, axiom, sorry.
-/
import Derived.Test.YtkebgnpifmcmaaaChecked
import GoSem.Claim
import GoSem.ClaimJoined
import GoSem.ClaimMapViews
import Derived.JoinedTies
import Derived.KernelRfl
namespace Go.Proofs.Ytkebgnpifmcmaaa
/- THE CELL 'sum', in the pinned program and in every row, IS THE sha256 OF THE DUMP (.gsa) THAT YtkebgnpifmcmaaaProg.lean LOADS. Nothing in Lean hashes anything: it is a label: what it is worth is what the hold of that sum in a sandbox is worth. -/
noncomputable def Try.pinned : Pinned := { name := "ytkebgnpifmcmaaa", sum := "bc5712df9e9ae33ee66a1cc830454e214374000a21a7abf0c1eae5b1a6b2c37a", checked := Try.checked }
namespace Rows
def none {H : Type} : Left H := { results := [], args := [] }

/-- 'seekerlaw.Sorts': WHATEVER THE INPUT: true; the input reads as it did. -/
def sortsSpec : ChangeSpec := { name := "sorts", fn := fun _ => fun
  | [d] => { results := [.lit (.bool true)], args := [d] }
  | _ => none }
def sortsRow : OpenClaim := { program := "ytkebgnpifmcmaaa", sum := "bc5712df9e9ae33ee66a1cc830454e214374000a21a7abf0c1eae5b1a6b2c37a", func := "seeker/seekerlaw.Sorts", spec := "sorts", apart := false }
def SortsSaid : Prop := sortsRow.holds Try.pinned (OpenSpec.ofChange sortsSpec)

/-- ITS FALSE NEIGHBOUR: 'it returns false'. Refute it at one input. -/
def sortsWrong : ChangeSpec := { name := "sorts", fn := fun _ => fun
  | [d] => { results := [.lit (.bool false)], args := [d] }
  | _ => none }
def SortsWrongFalsely : Prop := sortsRow.holds Try.pinned (OpenSpec.ofChange sortsWrong)

/-- 'seekerlaw.Transforms': WHATEVER THE INPUT: true; the input reads as it did. -/
def transformsSpec : ChangeSpec := { name := "transforms", fn := fun _ => fun
  | [d] => { results := [.lit (.bool true)], args := [d] }
  | _ => none }
def transformsRow : OpenClaim := { program := "ytkebgnpifmcmaaa", sum := "bc5712df9e9ae33ee66a1cc830454e214374000a21a7abf0c1eae5b1a6b2c37a", func := "seeker/seekerlaw.Transforms", spec := "transforms", apart := false }
def TransformsSaid : Prop := transformsRow.holds Try.pinned (OpenSpec.ofChange transformsSpec)

/-- ITS FALSE NEIGHBOUR: 'it returns false'. Refute it at one input. -/
def transformsWrong : ChangeSpec := { name := "transforms", fn := fun _ => fun
  | [d] => { results := [.lit (.bool false)], args := [d] }
  | _ => none }
def TransformsWrongFalsely : Prop := transformsRow.holds Try.pinned (OpenSpec.ofChange transformsWrong)

/-- 'seekerlaw.Restores': WHATEVER THE INPUT: true; the input reads as it did. -/
def restoresSpec : ChangeSpec := { name := "restores", fn := fun _ => fun
  | [d1, d2] => { results := [.lit (.bool true)], args := [d1, d2] }
  | _ => none }
def restoresRow : OpenClaim := { program := "ytkebgnpifmcmaaa", sum := "bc5712df9e9ae33ee66a1cc830454e214374000a21a7abf0c1eae5b1a6b2c37a", func := "seeker/seekerlaw.Restores", spec := "restores", apart := false }
def RestoresSaid : Prop := restoresRow.holds Try.pinned (OpenSpec.ofChange restoresSpec)

/-- ITS FALSE NEIGHBOUR: 'it returns false'. Refute it at one input. -/
def restoresWrong : ChangeSpec := { name := "restores", fn := fun _ => fun
  | [d1, d2] => { results := [.lit (.bool false)], args := [d1, d2] }
  | _ => none }
def RestoresWrongFalsely : Prop := restoresRow.holds Try.pinned (OpenSpec.ofChange restoresWrong)

/-- 'seekerkeep.Ordered': WHATEVER THE INPUT: true; the input reads as it did. -/
def orderedSpec : ChangeSpec := { name := "ordered", fn := fun _ => fun
  | [d] => { results := [.lit (.bool true)], args := [d] }
  | _ => none }
def orderedRow : OpenClaim := { program := "ytkebgnpifmcmaaa", sum := "bc5712df9e9ae33ee66a1cc830454e214374000a21a7abf0c1eae5b1a6b2c37a", func := "seeker/seekerkeep.Ordered", spec := "ordered", apart := false }
def OrderedSaid : Prop := orderedRow.holds Try.pinned (OpenSpec.ofChange orderedSpec)

/-- ITS FALSE NEIGHBOUR: 'it returns false'. Refute it at one input. -/
def orderedWrong : ChangeSpec := { name := "ordered", fn := fun _ => fun
  | [d] => { results := [.lit (.bool false)], args := [d] }
  | _ => none }
def OrderedWrongFalsely : Prop := orderedRow.holds Try.pinned (OpenSpec.ofChange orderedWrong)

/-- 'seekerkeep.Undone': WHATEVER THE INPUT: true; the input reads as it did. -/
def undoneSpec : ChangeSpec := { name := "undone", fn := fun _ => fun
  | [d1, d2] => { results := [.lit (.bool true)], args := [d1, d2] }
  | _ => none }
def undoneRow : OpenClaim := { program := "ytkebgnpifmcmaaa", sum := "bc5712df9e9ae33ee66a1cc830454e214374000a21a7abf0c1eae5b1a6b2c37a", func := "seeker/seekerkeep.Undone", spec := "undone", apart := false }
def UndoneSaid : Prop := undoneRow.holds Try.pinned (OpenSpec.ofChange undoneSpec)

/-- ITS FALSE NEIGHBOUR: 'it returns false'. Refute it at one input. -/
def undoneWrong : ChangeSpec := { name := "undone", fn := fun _ => fun
  | [d1, d2] => { results := [.lit (.bool false)], args := [d1, d2] }
  | _ => none }
def UndoneWrongFalsely : Prop := undoneRow.holds Try.pinned (OpenSpec.ofChange undoneWrong)

/-- 'seekerlaw.Images': WHATEVER THE INPUT: true; the input reads as it did. -/
def imagesSpec : ChangeSpec := { name := "images", fn := fun _ => fun
  | [d1, d2] => { results := [.lit (.bool true)], args := [d1, d2] }
  | _ => none }
def imagesRow : OpenClaim := { program := "ytkebgnpifmcmaaa", sum := "bc5712df9e9ae33ee66a1cc830454e214374000a21a7abf0c1eae5b1a6b2c37a", func := "seeker/seekerlaw.Images", spec := "images", unfollowed := true, recurses := true, apart := false }
def ImagesSaid : Prop := imagesRow.holds Try.pinned (OpenSpec.ofChange imagesSpec)

/-- ITS FALSE NEIGHBOUR: 'it returns false'. Refute it at one input. -/
def imagesWrong : ChangeSpec := { name := "images", fn := fun _ => fun
  | [d1, d2] => { results := [.lit (.bool false)], args := [d1, d2] }
  | _ => none }
def ImagesWrongFalsely : Prop := imagesRow.holds Try.pinned (OpenSpec.ofChange imagesWrong)

/-- 'seekerlaw.Ranks': WHATEVER THE INPUT: true; the input reads as it did. -/
def ranksSpec : ChangeSpec := { name := "ranks", fn := fun _ => fun
  | [d1, d2, d3, d4, d5] => { results := [.lit (.bool true)], args := [d1, d2, d3, d4, d5] }
  | _ => none }
def ranksRow : OpenClaim := { program := "ytkebgnpifmcmaaa", sum := "bc5712df9e9ae33ee66a1cc830454e214374000a21a7abf0c1eae5b1a6b2c37a", func := "seeker/seekerlaw.Ranks", spec := "ranks", unfollowed := true, recurses := true, apart := false }
def RanksSaid : Prop := ranksRow.holds Try.pinned (OpenSpec.ofChange ranksSpec)

/-- ITS FALSE NEIGHBOUR: 'it returns false'. Refute it at one input. -/
def ranksWrong : ChangeSpec := { name := "ranks", fn := fun _ => fun
  | [d1, d2, d3, d4, d5] => { results := [.lit (.bool false)], args := [d1, d2, d3, d4, d5] }
  | _ => none }
def RanksWrongFalsely : Prop := ranksRow.holds Try.pinned (OpenSpec.ofChange ranksWrong)

/-- 'seekerlaw.Foreign': WHATEVER THE INPUT: true; the input reads as it did. -/
def foreignSpec : ChangeSpec := { name := "foreign", fn := fun _ => fun
  | [d1, d2, d3, d4] => { results := [.lit (.bool true)], args := [d1, d2, d3, d4] }
  | _ => none }
def foreignRow : OpenClaim := { program := "ytkebgnpifmcmaaa", sum := "bc5712df9e9ae33ee66a1cc830454e214374000a21a7abf0c1eae5b1a6b2c37a", func := "seeker/seekerlaw.Foreign", spec := "foreign", unfollowed := true, recurses := true, apart := false }
def ForeignSaid : Prop := foreignRow.holds Try.pinned (OpenSpec.ofChange foreignSpec)

/-- ITS FALSE NEIGHBOUR: 'it returns false'. Refute it at one input. -/
def foreignWrong : ChangeSpec := { name := "foreign", fn := fun _ => fun
  | [d1, d2, d3, d4] => { results := [.lit (.bool false)], args := [d1, d2, d3, d4] }
  | _ => none }
def ForeignWrongFalsely : Prop := foreignRow.holds Try.pinned (OpenSpec.ofChange foreignWrong)

/-- 'seekerkeep.Walked': WHATEVER THE INPUT: true; the input reads as it did. -/
def walkedSpec : ChangeSpec := { name := "walked", fn := fun _ => fun
  | [d1, d2, d3, d4] => { results := [.lit (.bool true)], args := [d1, d2, d3, d4] }
  | _ => none }
def walkedRow : OpenClaim := { program := "ytkebgnpifmcmaaa", sum := "bc5712df9e9ae33ee66a1cc830454e214374000a21a7abf0c1eae5b1a6b2c37a", func := "seeker/seekerkeep.Walked", spec := "walked", unfollowed := true, recurses := true, apart := false }
def WalkedSaid : Prop := walkedRow.holds Try.pinned (OpenSpec.ofChange walkedSpec)

/-- ITS FALSE NEIGHBOUR: 'it returns false'. Refute it at one input. -/
def walkedWrong : ChangeSpec := { name := "walked", fn := fun _ => fun
  | [d1, d2, d3, d4] => { results := [.lit (.bool false)], args := [d1, d2, d3, d4] }
  | _ => none }
def WalkedWrongFalsely : Prop := walkedRow.holds Try.pinned (OpenSpec.ofChange walkedWrong)

/- THE SECOND FORM. 'bulk': how many values and letters a reading holds, each counted each time it is reached (what is shared counts as often as it is met; a slice's spare places count too). A statement '..UptoSaid' is the law's where the arguments, and the package variables that the reading takes, are together of bulk at most 1048576: NARROWER than '..Said'. Prove '..Said' where nothing that the law and all that it calls make is longer than what came in: it says more and counts as full. Else prove '..UptoSaid'. A law counts once. -/
mutual
def uptoBulk {H : Type} : DataW H → Nat
  | .lit (.string bytes) => bytes.length + 1
  | .lit _ => 1
  | .nil => 1
  | .ptr d => uptoBulk d + 1
  | .slice elems spare => uptoBulkAll elems + uptoBulkAll spare + 1
  | .agg parts => uptoBulkAll parts + 1
  | .iface _ d => uptoBulk d + 1
  | .map entries => uptoBulkEntries entries + 1
  | .held _ => 1
def uptoBulkAll {H : Type} : List (DataW H) → Nat
  | [] => 0
  | d :: r => uptoBulk d + uptoBulkAll r
def uptoBulkEntries {H : Type} : List (Lit × DataW H) → Nat
  | [] => 0
  | x :: r => uptoBulkEntry x + uptoBulkEntries r
def uptoBulkEntry {H : Type} : Lit × DataW H → Nat
  | (.string bytes, d) => bytes.length + uptoBulk d + 1
  | (_, d) => uptoBulk d + 1
 end
def uptoSmall : (H : Type) → List (DataW H) → Bool := fun _ ds => decide (uptoBulkAll ds ≤ 1048576)
def OpenSpec.upto (s : _root_.Go.ChangeSpec) : _root_.Go.OpenSpec := { _root_.Go.OpenSpec.ofChange s with cond := some uptoSmall }

/-- 'seekerlaw.Sorts', WHERE WHAT IT READS IS OF BULK AT MOST 1048576: true; the input reads as it did. -/
def sortsUptoRow : OpenClaim := { program := "ytkebgnpifmcmaaa", sum := "bc5712df9e9ae33ee66a1cc830454e214374000a21a7abf0c1eae5b1a6b2c37a", func := "seeker/seekerlaw.Sorts", spec := "sorts", apart := false, narrowed := true }
def SortsUptoSaid : Prop := sortsUptoRow.holds Try.pinned (OpenSpec.upto sortsSpec)

/-- 'seekerlaw.Transforms', WHERE WHAT IT READS IS OF BULK AT MOST 1048576: true; the input reads as it did. -/
def transformsUptoRow : OpenClaim := { program := "ytkebgnpifmcmaaa", sum := "bc5712df9e9ae33ee66a1cc830454e214374000a21a7abf0c1eae5b1a6b2c37a", func := "seeker/seekerlaw.Transforms", spec := "transforms", apart := false, narrowed := true }
def TransformsUptoSaid : Prop := transformsUptoRow.holds Try.pinned (OpenSpec.upto transformsSpec)

/-- 'seekerlaw.Restores', WHERE WHAT IT READS IS OF BULK AT MOST 1048576: true; the input reads as it did. -/
def restoresUptoRow : OpenClaim := { program := "ytkebgnpifmcmaaa", sum := "bc5712df9e9ae33ee66a1cc830454e214374000a21a7abf0c1eae5b1a6b2c37a", func := "seeker/seekerlaw.Restores", spec := "restores", apart := false, narrowed := true }
def RestoresUptoSaid : Prop := restoresUptoRow.holds Try.pinned (OpenSpec.upto restoresSpec)

/-- 'seekerkeep.Ordered', WHERE WHAT IT READS IS OF BULK AT MOST 1048576: true; the input reads as it did. -/
def orderedUptoRow : OpenClaim := { program := "ytkebgnpifmcmaaa", sum := "bc5712df9e9ae33ee66a1cc830454e214374000a21a7abf0c1eae5b1a6b2c37a", func := "seeker/seekerkeep.Ordered", spec := "ordered", apart := false, narrowed := true }
def OrderedUptoSaid : Prop := orderedUptoRow.holds Try.pinned (OpenSpec.upto orderedSpec)

/-- 'seekerkeep.Undone', WHERE WHAT IT READS IS OF BULK AT MOST 1048576: true; the input reads as it did. -/
def undoneUptoRow : OpenClaim := { program := "ytkebgnpifmcmaaa", sum := "bc5712df9e9ae33ee66a1cc830454e214374000a21a7abf0c1eae5b1a6b2c37a", func := "seeker/seekerkeep.Undone", spec := "undone", apart := false, narrowed := true }
def UndoneUptoSaid : Prop := undoneUptoRow.holds Try.pinned (OpenSpec.upto undoneSpec)

/-- 'seekerlaw.Images', WHERE WHAT IT READS IS OF BULK AT MOST 1048576: true; the input reads as it did. -/
def imagesUptoRow : OpenClaim := { program := "ytkebgnpifmcmaaa", sum := "bc5712df9e9ae33ee66a1cc830454e214374000a21a7abf0c1eae5b1a6b2c37a", func := "seeker/seekerlaw.Images", spec := "images", unfollowed := true, recurses := true, apart := false, narrowed := true }
def ImagesUptoSaid : Prop := imagesUptoRow.holds Try.pinned (OpenSpec.upto imagesSpec)

/-- 'seekerlaw.Ranks', WHERE WHAT IT READS IS OF BULK AT MOST 1048576: true; the input reads as it did. -/
def ranksUptoRow : OpenClaim := { program := "ytkebgnpifmcmaaa", sum := "bc5712df9e9ae33ee66a1cc830454e214374000a21a7abf0c1eae5b1a6b2c37a", func := "seeker/seekerlaw.Ranks", spec := "ranks", unfollowed := true, recurses := true, apart := false, narrowed := true }
def RanksUptoSaid : Prop := ranksUptoRow.holds Try.pinned (OpenSpec.upto ranksSpec)

/-- 'seekerlaw.Foreign', WHERE WHAT IT READS IS OF BULK AT MOST 1048576: true; the input reads as it did. -/
def foreignUptoRow : OpenClaim := { program := "ytkebgnpifmcmaaa", sum := "bc5712df9e9ae33ee66a1cc830454e214374000a21a7abf0c1eae5b1a6b2c37a", func := "seeker/seekerlaw.Foreign", spec := "foreign", unfollowed := true, recurses := true, apart := false, narrowed := true }
def ForeignUptoSaid : Prop := foreignUptoRow.holds Try.pinned (OpenSpec.upto foreignSpec)

/-- 'seekerkeep.Walked', WHERE WHAT IT READS IS OF BULK AT MOST 1048576: true; the input reads as it did. -/
def walkedUptoRow : OpenClaim := { program := "ytkebgnpifmcmaaa", sum := "bc5712df9e9ae33ee66a1cc830454e214374000a21a7abf0c1eae5b1a6b2c37a", func := "seeker/seekerkeep.Walked", spec := "walked", unfollowed := true, recurses := true, apart := false, narrowed := true }
def WalkedUptoSaid : Prop := walkedUptoRow.holds Try.pinned (OpenSpec.upto walkedSpec)

end Rows
end Go.Proofs.Ytkebgnpifmcmaaa
