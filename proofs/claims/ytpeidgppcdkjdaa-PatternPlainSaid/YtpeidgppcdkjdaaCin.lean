/-
  Which bytes a name has, as the document's code tells it. No condition.
-/
import Derived.Test.YtpeidgppcdkjdaaCina
import Derived.Test.YtpeidgppcdkjdaaCinb
import Derived.Test.YtpeidgppcdkjdaaCinc
import Derived.Test.YtpeidgppcdkjdaaCind
namespace Go.Proofs.Ytpeidgppcdkjdaa
open Go.RowKit

theorem in_is (name : ByteArray) (c : Nat) (hc : c < 256) (w : World) : Calls Try.prog 76 #[.string name, .int .i64 (c : Int)] w fun e w' => e = .returned (.int .i64 (inS name.toList c)) ∧ w' = w := by
  by_cases h8 : c ≤ 8
  · exact in_0 name c (by omega) h8 w
  by_cases h9 : c ≤ 9
  · exact in_9 name c (by omega) h9 w
  by_cases h13 : c ≤ 13
  · exact in_10 name c (by omega) h13 w
  by_cases h31 : c ≤ 31
  · exact in_14 name c (by omega) h31 w
  by_cases h32 : c ≤ 32
  · exact in_32 name c (by omega) h32 w
  by_cases h47 : c ≤ 47
  · exact in_33 name c (by omega) h47 w
  by_cases h57 : c ≤ 57
  · exact in_48 name c (by omega) h57 w
  by_cases h64 : c ≤ 64
  · exact in_58 name c (by omega) h64 w
  by_cases h70 : c ≤ 70
  · exact in_65 name c (by omega) h70 w
  by_cases h90 : c ≤ 90
  · exact in_71 name c (by omega) h90 w
  by_cases h96 : c ≤ 96
  · exact in_91 name c (by omega) h96 w
  by_cases h102 : c ≤ 102
  · exact in_97 name c (by omega) h102 w
  by_cases h122 : c ≤ 122
  · exact in_103 name c (by omega) h122 w
  by_cases h126 : c ≤ 126
  · exact in_123 name c (by omega) h126 w
  by_cases h127 : c ≤ 127
  · exact in_127 name c (by omega) h127 w
  exact in_128 name c (by omega) (by omega) w
end Go.Proofs.Ytpeidgppcdkjdaa
