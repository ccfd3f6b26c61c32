/-
  The program's cut: a rope of some of a rope's bytes. Condition: the rope is no longer than 65536 bytes, and some bytes are cut.
-/
import Derived.Test.YtmcohbppeabmgaaRdiv
namespace Go.Proofs.Ytmcohbppeabmgaa
open Go.RowKit Go.Deep

theorem drop_take_len {l : List UInt8} {i j : Nat} (h : j ≤ l.length) : ((l.take j).drop i).length = j - i := by rw [List.length_drop, List.length_take, Nat.min_eq_left h]
theorem cut_left {a b : List UInt8} {i j : Nat} (h : j ≤ a.length) : ((a ++ b).take j).drop i = (a.take j).drop i := by rw [List.take_append_of_le_length h]
theorem cut_right {a b : List UInt8} {i j : Nat} (h : a.length ≤ i) : ((a ++ b).take j).drop i = (b.take (j - a.length)).drop (i - a.length) := by
  rw [List.take_append, List.drop_append, List.drop_of_length_le (by rw [List.length_take]; omega), List.nil_append, List.length_take]
  by_cases hj : a.length ≤ j
  · rw [Nat.min_eq_right hj]
  · rw [Nat.min_eq_left (by omega), show j - a.length = 0 by omega, List.take_zero, List.drop_nil, List.drop_nil]
theorem cut_both {a b : List UInt8} {i j : Nat} (h1 : i ≤ a.length) (h2 : a.length ≤ j) : ((a ++ b).take j).drop i = (a.take a.length).drop i ++ (b.take (j - a.length)).drop 0 := by
  rw [List.take_append, List.take_of_length_le h2, List.take_length, List.drop_zero, List.drop_append_of_le_length h1]

end Go.Proofs.Ytmcohbppeabmgaa
