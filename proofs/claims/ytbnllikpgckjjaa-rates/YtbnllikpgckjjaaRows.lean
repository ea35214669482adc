/-
  No cell of these rows narrows 'for every input' (looked for: loops, veiled, ifaces, maps, wideKeys, modest, calm, conditions, laid).
  DERIVED. THE GIVEN ROWS OF THIS SEAT. 12 by the template 'for every input the law returns true; each argument reads behind the call as it read before'; 0 by the template 'total and deterministic' (their statements: YtbnllikpgckjjaaTotals.lean).
  GIVEN WITH THE SEED: the statements are not yours to turn. If you find one false, say at which input.
  Laid BY PROGRAM, IN A SANDBOX (cutbox-rows.mjs): the forced cells as the released guide's own fill.sh prints them over the translation 3ed51a944b95bd58… (all of the seat's roots in one cut). By AI agents, Wed Nov 11 2026. No macro, syntax, notation, axiom, sorry.
-/
import Derived.Test.YtbnllikpgckjjaaChecked
import GoSem.Claim
import GoSem.ClaimJoined
import GoSem.ClaimMapViews
import Derived.JoinedTies
import Derived.KernelRfl
namespace Go.Proofs.Ytbnllikpgckjjaa
/- THE CELL 'sum', in the pinned program and in every row, IS THE sha256 OF THE DUMP (.gsa) THAT YtbnllikpgckjjaaProg.lean LOADS. Nothing in Lean hashes anything: it is a label: what it is worth is what the hold of that sum in a sandbox is worth. -/
noncomputable def Try.pinned : Pinned := { name := "ytbnllikpgckjjaa", sum := "3ed51a944b95bd5805934ad005bb81b6a47063c90afde41d34e2d1dc3defd3b8", checked := Try.checked }
namespace Rows
def none {H : Type} : Left H := { results := [], args := [] }

/-- 'seekerlaw.Sorts': WHATEVER THE INPUT: true; the input reads as it did. -/
def sortsSpec : ChangeSpec := { name := "sorts", fn := fun _ => fun
  | [d] => { results := [.lit (.bool true)], args := [d] }
  | _ => none }
def sortsRow : OpenClaim := { program := "ytbnllikpgckjjaa", sum := "3ed51a944b95bd5805934ad005bb81b6a47063c90afde41d34e2d1dc3defd3b8", func := "seeker/seekerlaw.Sorts", spec := "sorts", apart := false }
def SortsSaid : Prop := sortsRow.holds Try.pinned (OpenSpec.ofChange sortsSpec)

/-- ITS FALSE NEIGHBOUR: 'it returns false'. Refute it at one input. -/
def sortsWrong : ChangeSpec := { name := "sorts", fn := fun _ => fun
  | [d] => { results := [.lit (.bool false)], args := [d] }
  | _ => none }
def SortsWrongFalsely : Prop := sortsRow.holds Try.pinned (OpenSpec.ofChange sortsWrong)

/-- 'seekerlaw.Transforms': WHATEVER THE INPUT: true; the input reads as it did. -/
def transformsSpec : ChangeSpec := { name := "transforms", fn := fun _ => fun
  | [d] => { results := [.lit (.bool true)], args := [d] }
  | _ => none }
def transformsRow : OpenClaim := { program := "ytbnllikpgckjjaa", sum := "3ed51a944b95bd5805934ad005bb81b6a47063c90afde41d34e2d1dc3defd3b8", func := "seeker/seekerlaw.Transforms", spec := "transforms", apart := false }
def TransformsSaid : Prop := transformsRow.holds Try.pinned (OpenSpec.ofChange transformsSpec)

/-- ITS FALSE NEIGHBOUR: 'it returns false'. Refute it at one input. -/
def transformsWrong : ChangeSpec := { name := "transforms", fn := fun _ => fun
  | [d] => { results := [.lit (.bool false)], args := [d] }
  | _ => none }
def TransformsWrongFalsely : Prop := transformsRow.holds Try.pinned (OpenSpec.ofChange transformsWrong)

/-- 'seekerlaw.Restores': WHATEVER THE INPUT: true; the input reads as it did. -/
def restoresSpec : ChangeSpec := { name := "restores", fn := fun _ => fun
  | [d1, d2] => { results := [.lit (.bool true)], args := [d1, d2] }
  | _ => none }
def restoresRow : OpenClaim := { program := "ytbnllikpgckjjaa", sum := "3ed51a944b95bd5805934ad005bb81b6a47063c90afde41d34e2d1dc3defd3b8", func := "seeker/seekerlaw.Restores", spec := "restores", apart := false }
def RestoresSaid : Prop := restoresRow.holds Try.pinned (OpenSpec.ofChange restoresSpec)

/-- ITS FALSE NEIGHBOUR: 'it returns false'. Refute it at one input. -/
def restoresWrong : ChangeSpec := { name := "restores", fn := fun _ => fun
  | [d1, d2] => { results := [.lit (.bool false)], args := [d1, d2] }
  | _ => none }
def RestoresWrongFalsely : Prop := restoresRow.holds Try.pinned (OpenSpec.ofChange restoresWrong)

/-- 'seekerkeep.Ordered': WHATEVER THE INPUT: true; the input reads as it did. -/
def orderedSpec : ChangeSpec := { name := "ordered", fn := fun _ => fun
  | [d] => { results := [.lit (.bool true)], args := [d] }
  | _ => none }
def orderedRow : OpenClaim := { program := "ytbnllikpgckjjaa", sum := "3ed51a944b95bd5805934ad005bb81b6a47063c90afde41d34e2d1dc3defd3b8", func := "seeker/seekerkeep.Ordered", spec := "ordered", apart := false }
def OrderedSaid : Prop := orderedRow.holds Try.pinned (OpenSpec.ofChange orderedSpec)

/-- ITS FALSE NEIGHBOUR: 'it returns false'. Refute it at one input. -/
def orderedWrong : ChangeSpec := { name := "ordered", fn := fun _ => fun
  | [d] => { results := [.lit (.bool false)], args := [d] }
  | _ => none }
def OrderedWrongFalsely : Prop := orderedRow.holds Try.pinned (OpenSpec.ofChange orderedWrong)

/-- 'seekerkeep.Undone': WHATEVER THE INPUT: true; the input reads as it did. -/
def undoneSpec : ChangeSpec := { name := "undone", fn := fun _ => fun
  | [d1, d2] => { results := [.lit (.bool true)], args := [d1, d2] }
  | _ => none }
def undoneRow : OpenClaim := { program := "ytbnllikpgckjjaa", sum := "3ed51a944b95bd5805934ad005bb81b6a47063c90afde41d34e2d1dc3defd3b8", func := "seeker/seekerkeep.Undone", spec := "undone", apart := false }
def UndoneSaid : Prop := undoneRow.holds Try.pinned (OpenSpec.ofChange undoneSpec)

/-- ITS FALSE NEIGHBOUR: 'it returns false'. Refute it at one input. -/
def undoneWrong : ChangeSpec := { name := "undone", fn := fun _ => fun
  | [d1, d2] => { results := [.lit (.bool false)], args := [d1, d2] }
  | _ => none }
def UndoneWrongFalsely : Prop := undoneRow.holds Try.pinned (OpenSpec.ofChange undoneWrong)

/-- 'seekerlaw.Images': WHATEVER THE INPUT: true; the input reads as it did. -/
def imagesSpec : ChangeSpec := { name := "images", fn := fun _ => fun
  | [d1, d2] => { results := [.lit (.bool true)], args := [d1, d2] }
  | _ => none }
def imagesRow : OpenClaim := { program := "ytbnllikpgckjjaa", sum := "3ed51a944b95bd5805934ad005bb81b6a47063c90afde41d34e2d1dc3defd3b8", func := "seeker/seekerlaw.Images", spec := "images", unfollowed := true, recurses := true, apart := false }
def ImagesSaid : Prop := imagesRow.holds Try.pinned (OpenSpec.ofChange imagesSpec)

/-- ITS FALSE NEIGHBOUR: 'it returns false'. Refute it at one input. -/
def imagesWrong : ChangeSpec := { name := "images", fn := fun _ => fun
  | [d1, d2] => { results := [.lit (.bool false)], args := [d1, d2] }
  | _ => none }
def ImagesWrongFalsely : Prop := imagesRow.holds Try.pinned (OpenSpec.ofChange imagesWrong)

/-- 'seekerlaw.Ranks': WHATEVER THE INPUT: true; the input reads as it did. -/
def ranksSpec : ChangeSpec := { name := "ranks", fn := fun _ => fun
  | [d1, d2, d3, d4, d5] => { results := [.lit (.bool true)], args := [d1, d2, d3, d4, d5] }
  | _ => none }
def ranksRow : OpenClaim := { program := "ytbnllikpgckjjaa", sum := "3ed51a944b95bd5805934ad005bb81b6a47063c90afde41d34e2d1dc3defd3b8", func := "seeker/seekerlaw.Ranks", spec := "ranks", unfollowed := true, recurses := true, apart := false }
def RanksSaid : Prop := ranksRow.holds Try.pinned (OpenSpec.ofChange ranksSpec)

/-- ITS FALSE NEIGHBOUR: 'it returns false'. Refute it at one input. -/
def ranksWrong : ChangeSpec := { name := "ranks", fn := fun _ => fun
  | [d1, d2, d3, d4, d5] => { results := [.lit (.bool false)], args := [d1, d2, d3, d4, d5] }
  | _ => none }
def RanksWrongFalsely : Prop := ranksRow.holds Try.pinned (OpenSpec.ofChange ranksWrong)

/-- 'seekerlaw.Foreign': WHATEVER THE INPUT: true; the input reads as it did. -/
def foreignSpec : ChangeSpec := { name := "foreign", fn := fun _ => fun
  | [d1, d2, d3, d4] => { results := [.lit (.bool true)], args := [d1, d2, d3, d4] }
  | _ => none }
def foreignRow : OpenClaim := { program := "ytbnllikpgckjjaa", sum := "3ed51a944b95bd5805934ad005bb81b6a47063c90afde41d34e2d1dc3defd3b8", func := "seeker/seekerlaw.Foreign", spec := "foreign", unfollowed := true, recurses := true, apart := false }
def ForeignSaid : Prop := foreignRow.holds Try.pinned (OpenSpec.ofChange foreignSpec)

/-- ITS FALSE NEIGHBOUR: 'it returns false'. Refute it at one input. -/
def foreignWrong : ChangeSpec := { name := "foreign", fn := fun _ => fun
  | [d1, d2, d3, d4] => { results := [.lit (.bool false)], args := [d1, d2, d3, d4] }
  | _ => none }
def ForeignWrongFalsely : Prop := foreignRow.holds Try.pinned (OpenSpec.ofChange foreignWrong)

/-- 'seekerkeep.Walked': WHATEVER THE INPUT: true; the input reads as it did. -/
def walkedSpec : ChangeSpec := { name := "walked", fn := fun _ => fun
  | [d1, d2, d3, d4] => { results := [.lit (.bool true)], args := [d1, d2, d3, d4] }
  | _ => none }
def walkedRow : OpenClaim := { program := "ytbnllikpgckjjaa", sum := "3ed51a944b95bd5805934ad005bb81b6a47063c90afde41d34e2d1dc3defd3b8", func := "seeker/seekerkeep.Walked", spec := "walked", unfollowed := true, recurses := true, apart := false }
def WalkedSaid : Prop := walkedRow.holds Try.pinned (OpenSpec.ofChange walkedSpec)

/-- ITS FALSE NEIGHBOUR: 'it returns false'. Refute it at one input. -/
def walkedWrong : ChangeSpec := { name := "walked", fn := fun _ => fun
  | [d1, d2, d3, d4] => { results := [.lit (.bool false)], args := [d1, d2, d3, d4] }
  | _ => none }
def WalkedWrongFalsely : Prop := walkedRow.holds Try.pinned (OpenSpec.ofChange walkedWrong)

/-- 'seekerlaw.Counts': WHATEVER THE INPUT: true; the input reads as it did. -/
def countsSpec : ChangeSpec := { name := "counts", fn := fun _ => fun
  | [d1, d2, d3] => { results := [.lit (.bool true)], args := [d1, d2, d3] }
  | _ => none }
def countsRow : OpenClaim := { program := "ytbnllikpgckjjaa", sum := "3ed51a944b95bd5805934ad005bb81b6a47063c90afde41d34e2d1dc3defd3b8", func := "seeker/seekerlaw.Counts", spec := "counts", unfollowed := true, recurses := true, apart := false }
def CountsSaid : Prop := countsRow.holds Try.pinned (OpenSpec.ofChange countsSpec)

/-- ITS FALSE NEIGHBOUR: 'it returns false'. Refute it at one input. -/
def countsWrong : ChangeSpec := { name := "counts", fn := fun _ => fun
  | [d1, d2, d3] => { results := [.lit (.bool false)], args := [d1, d2, d3] }
  | _ => none }
def CountsWrongFalsely : Prop := countsRow.holds Try.pinned (OpenSpec.ofChange countsWrong)

/-- 'seekerkeep.Seen': WHATEVER THE INPUT: true; the input reads as it did. -/
def seenSpec : ChangeSpec := { name := "seen", fn := fun _ => fun
  | [d1, d2, d3, d4, d5] => { results := [.lit (.bool true)], args := [d1, d2, d3, d4, d5] }
  | _ => none }
def seenRow : OpenClaim := { program := "ytbnllikpgckjjaa", sum := "3ed51a944b95bd5805934ad005bb81b6a47063c90afde41d34e2d1dc3defd3b8", func := "seeker/seekerkeep.Seen", spec := "seen", unfollowed := true, recurses := true, apart := false }
def SeenSaid : Prop := seenRow.holds Try.pinned (OpenSpec.ofChange seenSpec)

/-- ITS FALSE NEIGHBOUR: 'it returns false'. Refute it at one input. -/
def seenWrong : ChangeSpec := { name := "seen", fn := fun _ => fun
  | [d1, d2, d3, d4, d5] => { results := [.lit (.bool false)], args := [d1, d2, d3, d4, d5] }
  | _ => none }
def SeenWrongFalsely : Prop := seenRow.holds Try.pinned (OpenSpec.ofChange seenWrong)

/-- 'seekerkeep.Rates': WHATEVER THE INPUT: true; the input reads as it did. -/
def ratesSpec : ChangeSpec := { name := "rates", fn := fun _ => fun
  | [d1, d2, d3, d4, d5] => { results := [.lit (.bool true)], args := [d1, d2, d3, d4, d5] }
  | _ => none }
def ratesRow : OpenClaim := { program := "ytbnllikpgckjjaa", sum := "3ed51a944b95bd5805934ad005bb81b6a47063c90afde41d34e2d1dc3defd3b8", func := "seeker/seekerkeep.Rates", spec := "rates", unfollowed := true, recurses := true, apart := false }
def RatesSaid : Prop := ratesRow.holds Try.pinned (OpenSpec.ofChange ratesSpec)

/-- ITS FALSE NEIGHBOUR: 'it returns false'. Refute it at one input. -/
def ratesWrong : ChangeSpec := { name := "rates", fn := fun _ => fun
  | [d1, d2, d3, d4, d5] => { results := [.lit (.bool false)], args := [d1, d2, d3, d4, d5] }
  | _ => none }
def RatesWrongFalsely : Prop := ratesRow.holds Try.pinned (OpenSpec.ofChange ratesWrong)

/- THE SECOND FORM. 'bulk': how many values and letters a reading holds, each counted each time it is reached (what is shared counts as often as it is met; a slice's spare places count too). A statement '..UptoSaid' is the law's where the arguments, and the package variables that the reading takes, are together of bulk at most 1048576: NARROWER than '..Said'. Prove '..Said' where nothing that the law and all that it calls make is longer than what came in: it says more and counts as full. Else prove '..UptoSaid'. A law counts once. -/
mutual
def uptoBulk {H : Type} : DataW H → Nat
  | .lit (.string bytes) => bytes.length + 1
  | .lit _ => 1
  | .nil => 1
  | .ptr d => uptoBulk d + 1
  | .slice elems spare => uptoBulkAll elems + uptoBulkAll spare + 1
  | .agg parts => uptoBulkAll parts + 1
  | .iface _ d => uptoBulk d + 1
  | .map entries => uptoBulkEntries entries + 1
  | .held _ => 1
def uptoBulkAll {H : Type} : List (DataW H) → Nat
  | [] => 0
  | d :: r => uptoBulk d + uptoBulkAll r
def uptoBulkEntries {H : Type} : List (Lit × DataW H) → Nat
  | [] => 0
  | x :: r => uptoBulkEntry x + uptoBulkEntries r
def uptoBulkEntry {H : Type} : Lit × DataW H → Nat
  | (.string bytes, d) => bytes.length + uptoBulk d + 1
  | (_, d) => uptoBulk d + 1
 end
def uptoSmall : (H : Type) → List (DataW H) → Bool := fun _ ds => decide (uptoBulkAll ds ≤ 1048576)
def OpenSpec.upto (s : _root_.Go.ChangeSpec) : _root_.Go.OpenSpec := { _root_.Go.OpenSpec.ofChange s with cond := some uptoSmall }

/-- 'seekerlaw.Sorts', WHERE WHAT IT READS IS OF BULK AT MOST 1048576: true; the input reads as it did. -/
def sortsUptoRow : OpenClaim := { program := "ytbnllikpgckjjaa", sum := "3ed51a944b95bd5805934ad005bb81b6a47063c90afde41d34e2d1dc3defd3b8", func := "seeker/seekerlaw.Sorts", spec := "sorts", apart := false, narrowed := true }
def SortsUptoSaid : Prop := sortsUptoRow.holds Try.pinned (OpenSpec.upto sortsSpec)

/-- 'seekerlaw.Transforms', WHERE WHAT IT READS IS OF BULK AT MOST 1048576: true; the input reads as it did. -/
def transformsUptoRow : OpenClaim := { program := "ytbnllikpgckjjaa", sum := "3ed51a944b95bd5805934ad005bb81b6a47063c90afde41d34e2d1dc3defd3b8", func := "seeker/seekerlaw.Transforms", spec := "transforms", apart := false, narrowed := true }
def TransformsUptoSaid : Prop := transformsUptoRow.holds Try.pinned (OpenSpec.upto transformsSpec)

/-- 'seekerlaw.Restores', WHERE WHAT IT READS IS OF BULK AT MOST 1048576: true; the input reads as it did. -/
def restoresUptoRow : OpenClaim := { program := "ytbnllikpgckjjaa", sum := "3ed51a944b95bd5805934ad005bb81b6a47063c90afde41d34e2d1dc3defd3b8", func := "seeker/seekerlaw.Restores", spec := "restores", apart := false, narrowed := true }
def RestoresUptoSaid : Prop := restoresUptoRow.holds Try.pinned (OpenSpec.upto restoresSpec)

/-- 'seekerkeep.Ordered', WHERE WHAT IT READS IS OF BULK AT MOST 1048576: true; the input reads as it did. -/
def orderedUptoRow : OpenClaim := { program := "ytbnllikpgckjjaa", sum := "3ed51a944b95bd5805934ad005bb81b6a47063c90afde41d34e2d1dc3defd3b8", func := "seeker/seekerkeep.Ordered", spec := "ordered", apart := false, narrowed := true }
def OrderedUptoSaid : Prop := orderedUptoRow.holds Try.pinned (OpenSpec.upto orderedSpec)

/-- 'seekerkeep.Undone', WHERE WHAT IT READS IS OF BULK AT MOST 1048576: true; the input reads as it did. -/
def undoneUptoRow : OpenClaim := { program := "ytbnllikpgckjjaa", sum := "3ed51a944b95bd5805934ad005bb81b6a47063c90afde41d34e2d1dc3defd3b8", func := "seeker/seekerkeep.Undone", spec := "undone", apart := false, narrowed := true }
def UndoneUptoSaid : Prop := undoneUptoRow.holds Try.pinned (OpenSpec.upto undoneSpec)

/-- 'seekerlaw.Images', WHERE WHAT IT READS IS OF BULK AT MOST 1048576: true; the input reads as it did. -/
def imagesUptoRow : OpenClaim := { program := "ytbnllikpgckjjaa", sum := "3ed51a944b95bd5805934ad005bb81b6a47063c90afde41d34e2d1dc3defd3b8", func := "seeker/seekerlaw.Images", spec := "images", unfollowed := true, recurses := true, apart := false, narrowed := true }
def ImagesUptoSaid : Prop := imagesUptoRow.holds Try.pinned (OpenSpec.upto imagesSpec)

/-- 'seekerlaw.Ranks', WHERE WHAT IT READS IS OF BULK AT MOST 1048576: true; the input reads as it did. -/
def ranksUptoRow : OpenClaim := { program := "ytbnllikpgckjjaa", sum := "3ed51a944b95bd5805934ad005bb81b6a47063c90afde41d34e2d1dc3defd3b8", func := "seeker/seekerlaw.Ranks", spec := "ranks", unfollowed := true, recurses := true, apart := false, narrowed := true }
def RanksUptoSaid : Prop := ranksUptoRow.holds Try.pinned (OpenSpec.upto ranksSpec)

/-- 'seekerlaw.Foreign', WHERE WHAT IT READS IS OF BULK AT MOST 1048576: true; the input reads as it did. -/
def foreignUptoRow : OpenClaim := { program := "ytbnllikpgckjjaa", sum := "3ed51a944b95bd5805934ad005bb81b6a47063c90afde41d34e2d1dc3defd3b8", func := "seeker/seekerlaw.Foreign", spec := "foreign", unfollowed := true, recurses := true, apart := false, narrowed := true }
def ForeignUptoSaid : Prop := foreignUptoRow.holds Try.pinned (OpenSpec.upto foreignSpec)

/-- 'seekerkeep.Walked', WHERE WHAT IT READS IS OF BULK AT MOST 1048576: true; the input reads as it did. -/
def walkedUptoRow : OpenClaim := { program := "ytbnllikpgckjjaa", sum := "3ed51a944b95bd5805934ad005bb81b6a47063c90afde41d34e2d1dc3defd3b8", func := "seeker/seekerkeep.Walked", spec := "walked", unfollowed := true, recurses := true, apart := false, narrowed := true }
def WalkedUptoSaid : Prop := walkedUptoRow.holds Try.pinned (OpenSpec.upto walkedSpec)

/-- 'seekerlaw.Counts', WHERE WHAT IT READS IS OF BULK AT MOST 1048576: true; the input reads as it did. -/
def countsUptoRow : OpenClaim := { program := "ytbnllikpgckjjaa", sum := "3ed51a944b95bd5805934ad005bb81b6a47063c90afde41d34e2d1dc3defd3b8", func := "seeker/seekerlaw.Counts", spec := "counts", unfollowed := true, recurses := true, apart := false, narrowed := true }
def CountsUptoSaid : Prop := countsUptoRow.holds Try.pinned (OpenSpec.upto countsSpec)

/-- 'seekerkeep.Seen', WHERE WHAT IT READS IS OF BULK AT MOST 1048576: true; the input reads as it did. -/
def seenUptoRow : OpenClaim := { program := "ytbnllikpgckjjaa", sum := "3ed51a944b95bd5805934ad005bb81b6a47063c90afde41d34e2d1dc3defd3b8", func := "seeker/seekerkeep.Seen", spec := "seen", unfollowed := true, recurses := true, apart := false, narrowed := true }
def SeenUptoSaid : Prop := seenUptoRow.holds Try.pinned (OpenSpec.upto seenSpec)

/-- 'seekerkeep.Rates', WHERE WHAT IT READS IS OF BULK AT MOST 1048576: true; the input reads as it did. -/
def ratesUptoRow : OpenClaim := { program := "ytbnllikpgckjjaa", sum := "3ed51a944b95bd5805934ad005bb81b6a47063c90afde41d34e2d1dc3defd3b8", func := "seeker/seekerkeep.Rates", spec := "rates", unfollowed := true, recurses := true, apart := false, narrowed := true }
def RatesUptoSaid : Prop := ratesUptoRow.holds Try.pinned (OpenSpec.upto ratesSpec)

end Rows
end Go.Proofs.Ytbnllikpgckjjaa
