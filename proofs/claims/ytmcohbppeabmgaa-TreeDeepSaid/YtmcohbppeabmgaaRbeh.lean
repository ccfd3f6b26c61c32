/-
  The program's Lines and behind. Condition: the rope is no longer than 65536 bytes.
-/
import Derived.Test.YtmcohbppeabmgaaRget
import Derived.Test.YtmcohbppeabmgaaRwrite
namespace Go.Proofs.Ytmcohbppeabmgaa
open Go.RowKit Go.Deep

end Go.Proofs.Ytmcohbppeabmgaa
