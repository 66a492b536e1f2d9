/-
  Versions, the reference: the walk of part (strings of at most 100000 bytes).
-/
import Derived.Test.YtceeilojcifgeaaDoorVorC
namespace Go.Proofs.YtceeilojcifgeaaDoor
open Go.RowKit

end Go.Proofs.YtceeilojcifgeaaDoor
