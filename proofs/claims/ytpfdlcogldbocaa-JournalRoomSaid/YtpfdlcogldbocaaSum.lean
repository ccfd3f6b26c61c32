/-
  What Sum of package fletcher, and of the document's answer, return over bytes in memory. Condition: the bytes lie in memory.
-/
import Derived.Test.YtpfdlcogldbocaaMore
import Derived.Lib.SlBytesConst
import Derived.Laws.BytesArg
namespace Go.Proofs.Ytpfdlcogldbocaa
open Go.RowKit

theorem sum_any (A : Option Addr) (l : List UInt8) (cap : Nat) (w : World) (hb : BytesAt w A l) (hl : l.length ≤ maxLen) :
    Calls Try.prog 61 #[.slice A l.length cap] w fun e w' => e = .returned (.int .u32 (more 1 l)) ∧ w = w' := by
  have H : Hid (Calls Try.prog 60 #[.int .u32 1, .slice A l.length cap] w fun e w' => e = .returned (.int .u32 (more 1 l)) ∧ w = w') := Lib.hid (more_any 1 (by omega) A l cap w hb hl)
  clear hb
  go_enter Try.func61, Try.ntmps61
  go_wp2_with fail
  go_at_call 60
  (with_reducible refine (H.out).mono ?_)
  rintro e w' ⟨rfl, rfl⟩
  go_wp2_with fail
  go_ret
  exact ⟨rfl, rfl⟩

theorem refSum_any (A : Option Addr) (l : List UInt8) (cap : Nat) (w : World) (hb : BytesAt w A l) (hl : l.length ≤ maxLen) :
    Calls Try.prog 62 #[.slice A l.length cap] w fun e w' => e = .returned (.int .u32 (more 1 l)) ∧ w = w' := by
  have H : Hid (Calls Try.prog 63 #[.int .u32 1, .slice A l.length cap] w fun e w' => e = .returned (.int .u32 (more 1 l)) ∧ w = w') := Lib.hid (refMore_any 1 (by omega) A l cap w hb hl)
  clear hb
  go_enter Try.func62, Try.ntmps62
  go_wp2_with fail
  go_at_call 63
  (with_reducible refine (H.out).mono ?_)
  rintro e w' ⟨rfl, rfl⟩
  go_wp2_with fail
  go_ret
  exact ⟨rfl, rfl⟩

end Go.Proofs.Ytpfdlcogldbocaa
