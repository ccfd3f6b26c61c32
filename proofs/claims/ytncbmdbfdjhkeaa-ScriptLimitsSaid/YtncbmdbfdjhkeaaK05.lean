import Derived.Test.YtncbmdbfdjhkeaaProg
import Derived.WalkKit
import Derived.Below
import Derived.Lib.Hide
/-
  strings.HasPrefix and strings.CutPrefix of any strings. No condition.
-/
namespace Go.Proofs.Ytncbmdbfdjhkeaa
open Go.RowKit
def pre (p s : ByteArray) : Bool := p.data.toList.isPrefixOf s.data.toList
theorem pre_take {p s : List UInt8} (h : p.length ≤ s.length) : p.isPrefixOf s = (s.take p.length == p) := by
  induction p generalizing s with
  | nil => simp
  | cons a p ih =>
    cases s with
    | nil => simp at h
    | cons b s =>
      simp only [List.isPrefixOf, List.length_cons, List.take_succ_cons]
      rw [ih (by simpa using h)]
      rw [show (b :: List.take p.length s == a :: p) = ((b == a) && (List.take p.length s == p)) from rfl, Bool.beq_comm]
theorem pre_short {p s : List UInt8} (h : s.length < p.length) : p.isPrefixOf s = false := by
  cases e : p.isPrefixOf s with
  | false => rfl
  | true =>
    have := List.IsPrefix.length_le (List.isPrefixOf_iff_prefix.1 e)
    omega
set_option maxRecDepth 100000 in
theorem lite_prefix (s p : ByteArray) (w : World) : Calls Try.prog 53 #[.string s, .string p] w fun e w' => e = .returned (.bool (pre p s)) ∧ w' = w := by
  by_cases h : p.size ≤ s.size
  · have hd : decide (p.size ≤ s.size) = true := decide_eq_true h
    have hdi : decide ((p.size : Int) ≤ (s.size : Int)) = true := decide_eq_true (by omega)
    have HP := Lib.hid (show ((s.extract 0 p.size).toList == p.toList) = pre p s by
      unfold pre
      rw [pre_take (by simpa using h), ByteArray.toList_eq, ByteArray.toList_eq]
      congr 1
      simp)
    go_enter Try.func53, Try.ntmps53
    go_wp2_with fail
    go_ret
    exact ⟨by rw [HP.out]; rfl, rfl⟩
  · have hd : decide (p.size ≤ s.size) = false := decide_eq_false h
    have hdi : decide ((p.size : Int) ≤ (s.size : Int)) = false := decide_eq_false (by omega)
    have HP := Lib.hid (show pre p s = false from pre_short (by simpa using h))
    clear h
    go_enter Try.func53, Try.ntmps53
    go_wp2_with fail
    go_ret
    exact ⟨by rw [HP.out]; rfl, rfl⟩
set_option maxRecDepth 100000 in
theorem has_prefix (s p : ByteArray) (w : World) : Calls Try.prog 44 #[.string s, .string p] w fun e w' => e = .returned (.bool (pre p s)) ∧ w' = w := by
  have H := Lib.hid (lite_prefix s p)
  go_enter Try.func44, Try.ntmps44
  go_wp2_with fail
  go_at_call 53
  refine (H.out _).mono ?_
  rintro e w1 ⟨rfl, rfl⟩
  go_wp2_with fail
  go_ret
  exact ⟨rfl, rfl⟩
set_option maxRecDepth 100000 in
theorem lite_cut_prefix (s p : ByteArray) (w : World) : Calls Try.prog 99 #[.string s, .string p] w fun e w' => e = .returned (.tuple #[.string (if pre p s then s.extract p.size s.size else s), .bool (pre p s)]) ∧ w' = w := by
  have H := Lib.hid (lite_prefix s p)
  cases hp : pre p s with
  | true =>
    rw [hp] at H
    have hle : p.size ≤ s.size := by
      apply Nat.le_of_not_lt
      intro h
      have := pre_short (p := p.data.toList) (s := s.data.toList) (by simpa using h)
      unfold pre at hp
      rw [hp] at this
      cases this
    clear hp
    go_enter Try.func99, Try.ntmps99
    go_wp2_with fail
    go_at_call 53
    refine (H.out _).mono ?_
    rintro e w1 ⟨rfl, rfl⟩
    go_wp2_with fail
    go_ret2
    exact ⟨rfl, rfl⟩
  | false =>
    rw [hp] at H
    clear hp
    go_enter Try.func99, Try.ntmps99
    go_wp2_with fail
    go_at_call 53
    refine (H.out _).mono ?_
    rintro e w1 ⟨rfl, rfl⟩
    go_wp2_with fail
    go_ret2
    exact ⟨rfl, rfl⟩
set_option maxRecDepth 100000 in
theorem cut_prefix (s p : ByteArray) (w : World) : Calls Try.prog 95 #[.string s, .string p] w fun e w' => e = .returned (.tuple #[.string (if pre p s then s.extract p.size s.size else s), .bool (pre p s)]) ∧ w' = w := by
  have H := Lib.hid (lite_cut_prefix s p)
  generalize (if pre p s then s.extract p.size s.size else s) = r at H ⊢
  go_enter Try.func95, Try.ntmps95
  go_wp2_with fail
  go_at_call 99
  refine (H.out _).mono ?_
  rintro e w1 ⟨rfl, rfl⟩
  go_wp2_with fail
  go_ret2
  exact ⟨rfl, rfl⟩
end Go.Proofs.Ytncbmdbfdjhkeaa
