/-
  Stores: the walk of Root (lists of at most 1000000 blobs).
-/
import Derived.Test.YtfehgkpmjnmpeaaGreatDoorStsC
namespace Go.Proofs.YtfehgkpmjnmpeaaGreatDoor
open Go.RowKit

end Go.Proofs.YtfehgkpmjnmpeaaGreatDoor
