/-
  strings.IndexByte and strings.Clone, by the library's contracts. Condition: a text that Clone can copy.
-/
import Derived.Test.YtncbmdbfdjhkeaaShelf
import Derived.Below
import Derived.WalkKit
import Derived.Lib.Hide
namespace Go.Proofs.Ytncbmdbfdjhkeaa
open Go.RowKit
theorem st_index (s : ByteArray) (c : Int) (w : World) :
    Calls Try.prog 23 #[.string s, .int .u8 c] w fun e w' => e = .returned (.int .i64 (Lib.indexByte s.data.toList c.toNat.toUInt8)) ∧ w' = w := Try.strings_IndexByte s c w
theorem st_clone (s : ByteArray) (w : World) (hlim : s.size ≤ 281474976710656) :
    Calls Try.prog 41 #[.string s] w fun e w' => e = .returned (.string s) ∧ Below w.heap.size w w' := by
  have H := Lib.hid fun (W : World) => Try.stringslite_Clone s W hlim
  go_enter Try.func41, Try.ntmps41
  go_wp2_with fail
  go_at_call 52
  refine (H.out _).mono ?_
  rintro e w1 ⟨rfl, hb⟩
  have HB := Lib.hid hb
  clear hb
  go_wp2_with fail
  go_ret
  exact ⟨rfl, HB.out⟩
end Go.Proofs.Ytncbmdbfdjhkeaa
