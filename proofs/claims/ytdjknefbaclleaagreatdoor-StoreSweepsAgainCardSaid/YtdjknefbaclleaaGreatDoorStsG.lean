/-
  Stores: the walk of Root (lists of at most 1000000 blobs).
-/
import Derived.Test.YtdjknefbaclleaaGreatDoorStsC
namespace Go.Proofs.YtdjknefbaclleaaGreatDoor
open Go.RowKit

end Go.Proofs.YtdjknefbaclleaaGreatDoor
