import Derived.Test.YtflkfleihlceeaaGreatDoorD00
import Derived.Test.YtflkfleihlceeaaGreatDoorProg
import Derived.WalkKit
import Derived.Below
import Derived.Lib.Hide
/-
 strings.HasPrefix and strings.CutPrefix of any strings. No condition.
-/
namespace Go.Proofs.YtflkfleihlceeaaGreatDoor
open Go.RowKit
def pre (p s : ByteArray) : Bool := p.data.toList.isPrefixOf s.data.toList
theorem pre_take {p s : List UInt8} (h : p.length <= s.length) : p.isPrefixOf s = (s.take p.length == p) := by
 induction p generalizing s with
 | nil => simp
 | cons a p ih =>
  cases s with
  | nil => simp at h
  | cons b s =>
   simp only [List.isPrefixOf, List.length_cons, List.take_succ_cons];rw [ih (by simpa using h)];rw [show (b :: List.take p.length s == a :: p) = ((b == a) && (List.take p.length s == p)) from rfl, Bool.beq_comm]
theorem pre_short {p s : List UInt8} (h : s.length < p.length) : p.isPrefixOf s = false := by
 cases e : p.isPrefixOf s with
 | false => rfl
 | true =>
  have := List.IsPrefix.length_le (List.isPrefixOf_iff_prefix.1 e);omega
set_option maxRecDepth 100000 in
theorem lite_prefix (s p : ByteArray) (w : World) : Calls Tryz.prog 126 #[.string s, .string p] w fun e w' => e = .returned (.bool (pre p s)) /\ w' = w := by
 by_cases h : p.size <= s.size
 ·have hd : decide (p.size <= s.size) = true := dqt h;have hdi : decide ((p.size : Int) <= (s.size : Int)) = true := dqt (by omega)
  have HP := lh (show ((s.extract 0 p.size).toList == p.toList) = pre p s by
   unfold pre;rw [pre_take (by simpa using h), ByteArray.toList_eq, ByteArray.toList_eq]
   congr 1
   simp)
  go_enter Tryz.func126, Tryz.ntmps126;go_wp2_with fail;go_ret;exact ⟨by rw [HP.out]; rfl, rfl⟩
 ·have hd : decide (p.size <= s.size) = false := dqf h;have hdi : decide ((p.size : Int) <= (s.size : Int)) = false := dqf (by omega);have HP := lh (show pre p s = false from pre_short (by simpa using h));clear h;go_enter Tryz.func126, Tryz.ntmps126;go_wp2_with fail;go_ret;exact ⟨by rw [HP.out]; rfl, rfl⟩
set_option maxRecDepth 100000 in
theorem has_prefix (s p : ByteArray) (w : World) : Calls Tryz.prog 114 #[.string s, .string p] w fun e w' => e = .returned (.bool (pre p s)) /\ w' = w := by
 have H := lh (lite_prefix s p);go_enter Tryz.func114, Tryz.ntmps114;go_wp2_with fail;go_at_call 126;refine (H.out _).mono ?_;rintro e w1 ⟨rfl, rfl⟩;go_wp2_with fail;go_ret;exact ⟨rfl, rfl⟩
set_option maxRecDepth 100000 in
theorem lite_cut_prefix (s p : ByteArray) (w : World) : Calls Tryz.prog 137 #[.string s, .string p] w fun e w' => e = .returned (.tuple #[.string (if pre p s then s.extract p.size s.size else s), .bool (pre p s)]) /\ w' = w := by
 have H := lh (lite_prefix s p);cases hp : pre p s with
 | true =>
  rw [hp] at H
  have hle : p.size <= s.size := by
   apply Nat.le_of_not_lt;intro h;have := pre_short (p := p.data.toList) (s := s.data.toList) (by simpa using h);unfold pre at hp;rw [hp] at this;cases this
  clear hp;go_enter Tryz.func137, Tryz.ntmps137;go_wp2_with fail;go_at_call 126;refine (H.out _).mono ?_;rintro e w1 ⟨rfl, rfl⟩;go_wp2_with fail;go_ret2
  exact ⟨rfl, rfl⟩
 | false =>
  rw [hp] at H;clear hp;go_enter Tryz.func137, Tryz.ntmps137;go_wp2_with fail;go_at_call 126;refine (H.out _).mono ?_;rintro e w1 ⟨rfl, rfl⟩;go_wp2_with fail;go_ret2
  exact ⟨rfl, rfl⟩
set_option maxRecDepth 100000 in
theorem cut_prefix (s p : ByteArray) (w : World) : Calls Tryz.prog 131 #[.string s, .string p] w fun e w' => e = .returned (.tuple #[.string (if pre p s then s.extract p.size s.size else s), .bool (pre p s)]) /\ w' = w := by
 have H := lh (lite_cut_prefix s p);generalize (if pre p s then s.extract p.size s.size else s) = r at H ⊢;go_enter Tryz.func131, Tryz.ntmps131;go_wp2_with fail;go_at_call 137;refine (H.out _).mono ?_;rintro e w1 ⟨rfl, rfl⟩;go_wp2_with fail;go_ret2
 exact ⟨rfl, rfl⟩
end Go.Proofs.YtflkfleihlceeaaGreatDoor
