/-
  The zero digest as a list of bytes (no program is named here but for its name space).
-/
import GoSem.Claim
namespace Go.Proofs.YtkeieacmboidoaaDoor
open Go

def zed : List Int := List.replicate 32 0
end Go.Proofs.YtkeieacmboidoaaDoor
