import Derived.Test.YtkebgnpifmcmaaaGreatGH
namespace Go.Proofs.YtkebgnpifmcmaaaGreat
open Go.RowKit

end Go.Proofs.YtkebgnpifmcmaaaGreat
