/-
  The walk of the reference's Tree (conditions: the list has at most 1000000 elements and reads as lists of 32 bytes).
-/
import Derived.Test.YtdjknefbaclleaaGreatDoorRefD
import Derived.Test.YtdjknefbaclleaaGreatDoorGf
namespace Go.Proofs.YtdjknefbaclleaaGreatDoor
open Go.RowKit

end Go.Proofs.YtdjknefbaclleaaGreatDoor
