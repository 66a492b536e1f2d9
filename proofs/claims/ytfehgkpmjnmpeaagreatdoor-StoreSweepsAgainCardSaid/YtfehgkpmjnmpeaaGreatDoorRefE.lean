/-
  The walk of the reference's Tree (conditions: the list has at most 1000000 elements and reads as lists of 32 bytes).
-/
import Derived.Test.YtfehgkpmjnmpeaaGreatDoorRefD
import Derived.Test.YtfehgkpmjnmpeaaGreatDoorGf
namespace Go.Proofs.YtfehgkpmjnmpeaaGreatDoor
open Go.RowKit

end Go.Proofs.YtfehgkpmjnmpeaaGreatDoor
