/-
  The zero digest as a list of bytes (no program is named here but for its name space).
-/
import GoSem.Claim
set_option maxRecDepth 100000
set_option maxHeartbeats 8000000
namespace Go.Proofs.YtbbeeajkclbaaaaDoor
open Go
def zed : List Int := List.replicate 32 0
end Go.Proofs.YtbbeeajkclbaaaaDoor
