import Derived.Test.YtkebgnpifmcmaaaGreatGH
namespace Go.Proofs.YtkebgnpifmcmaaaGreat
open Go.RowKit

/-- What a call on a pair answers. -/
def okRes (v : Value) (w : World) (e : Ending) (w' : World) : Prop := e = .returned (.tuple #[v, .int .i64 0]) ∧ Below w.heap.size w w'

end Go.Proofs.YtkebgnpifmcmaaaGreat

namespace Go.Proofs.YtkebgnpifmcmaaaGreat
open Go.RowKit

end Go.Proofs.YtkebgnpifmcmaaaGreat
