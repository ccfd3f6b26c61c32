/-
  The document's single: whether the byte at a place may be one of an item. Condition: a place in a text, or just behind it.
-/
import Derived.Test.YtpeidgppcdkjdaaCitem
namespace Go.Proofs.Ytpeidgppcdkjdaa
open Go.RowKit

def sgl (l : List UInt8) (f : Bool) : Bool := match l with
  | [] => false
  | c :: r => byteOf (c :: r) && !(c == 93 && !f)
theorem at_drop {s : ByteArray} {i : Nat} {c : UInt8} {r : List UInt8} (h : s.data.toList.drop i = c :: r) : i < s.size ∧ ∀ h : i < s.size, s[i]'h = c := by
  have h1 : s.data.toList[i]? = some c := by
    have := congrArg (fun l => l[0]?) h
    simpa using this
  refine ⟨?_, fun hi => ?_⟩
  · have := (List.getElem?_eq_some_iff.1 h1).1
    simpa using this
  · exact at_of rfl h1 hi
theorem drop_next {s : ByteArray} {i : Nat} {c : UInt8} {r : List UInt8} (h : s.data.toList.drop i = c :: r) : s.data.toList.drop (i + 1) = r := by
  rw [← List.drop_drop, h]; rfl
theorem drop_end {s : ByteArray} {i : Nat} (h : s.data.toList.drop i = []) : s.size ≤ i := by
  have := List.drop_eq_nil_iff.1 h
  simpa using this
theorem tst (c : UInt8) (n : Nat) (k : UInt8) (hk : k.toNat = n) (b : Bool) (h : (c == k) = b) : (((c.toNat : Nat) : Int) == (n : Int)) = b := by rw [u8_test c n k hk, h]

set_option maxRecDepth 100000 in
theorem single_end (s : ByteArray) (i : Nat) (f : Bool) (hl : s.data.toList.drop i = []) (w : World) : Calls Try.prog 63 #[.string s, .int .i64 (i : Int), .bool f] w fun e w' => e = .returned (.bool (sgl (s.data.toList.drop i) f)) ∧ w' = w := by
  have HV := Lib.hid (show sgl (s.data.toList.drop i) f = false by rw [hl]; rfl)
  have h1 : (s.size : Int) ≤ (i : Int) := by have := drop_end hl; omega
  clear hl
  go_enter Try.func63, Try.ntmps63
  go_wp2_with fail
  go_ret
  exact ⟨by rw [HV.out]; rfl, rfl⟩
set_option maxRecDepth 100000 in
theorem single_feed (s : ByteArray) (i : Nat) (f : Bool) {r : List UInt8} (hl : s.data.toList.drop i = 10 :: r) (w : World) : Calls Try.prog 63 #[.string s, .int .i64 (i : Int), .bool f] w fun e w' => e = .returned (.bool (sgl (s.data.toList.drop i) f)) ∧ w' = w := by
  have HV := Lib.hid (show sgl (s.data.toList.drop i) f = false by rw [hl]; cases r <;> rfl)
  obtain ⟨hi, h0⟩ := at_drop hl
  have h1 : (i : Int) < (s.size : Int) := by omega
  clear hl
  go_enter Try.func63, Try.ntmps63
  go_wp2_with fail
  go_ret
  exact ⟨by rw [HV.out]; rfl, rfl⟩
set_option maxRecDepth 100000 in
theorem single_close (s : ByteArray) (i : Nat) (f : Bool) {r : List UInt8} (hl : s.data.toList.drop i = 93 :: r) (w : World) : Calls Try.prog 63 #[.string s, .int .i64 (i : Int), .bool f] w fun e w' => e = .returned (.bool (sgl (s.data.toList.drop i) f)) ∧ w' = w := by
  have HV := Lib.hid (show sgl (s.data.toList.drop i) f = f by rw [hl]; cases r <;> cases f <;> rfl)
  obtain ⟨hi, h0⟩ := at_drop hl
  have h1 : (i : Int) < (s.size : Int) := by omega
  clear hl
  cases f with
  | false =>
    go_enter Try.func63, Try.ntmps63
    go_wp2_with fail
    go_ret
    exact ⟨by rw [HV.out]; rfl, rfl⟩
  | true =>
    go_enter Try.func63, Try.ntmps63
    go_wp2_with fail
    go_ret
    exact ⟨by rw [HV.out]; rfl, rfl⟩
set_option maxRecDepth 100000 in
theorem single_last (s : ByteArray) (i : Nat) (f : Bool) (hz : s.size ≤ 281474976710656) (hl : s.data.toList.drop i = [91]) (w : World) : Calls Try.prog 63 #[.string s, .int .i64 (i : Int), .bool f] w fun e w' => e = .returned (.bool (sgl (s.data.toList.drop i) f)) ∧ w' = w := by
  have HV := Lib.hid (show sgl (s.data.toList.drop i) f = true by rw [hl]; rfl)
  obtain ⟨hi, h0⟩ := at_drop hl
  have h1 : (i : Int) < (s.size : Int) := by omega
  have h2 : ¬ ((i : Int) + 1 < (s.size : Int)) := by have := drop_end (drop_next hl); omega
  have hw : wrap64 ((i : Int) + 1) = (i : Int) + 1 := IntWalk.wrap64_in _ (by omega)
  clear hl
  go_enter Try.func63, Try.ntmps63
  go_wp2_with fail
  go_ret
  exact ⟨by rw [HV.out]; rfl, rfl⟩
set_option maxRecDepth 100000 in
theorem single_open (s : ByteArray) (i : Nat) (f : Bool) (hz : s.size ≤ 281474976710656) {d : UInt8} {r : List UInt8} (hl : s.data.toList.drop i = 91 :: d :: r) (w : World) : Calls Try.prog 63 #[.string s, .int .i64 (i : Int), .bool f] w fun e w' => e = .returned (.bool (sgl (s.data.toList.drop i) f)) ∧ w' = w := by
  have HV := Lib.hid (show sgl (s.data.toList.drop i) f = !(d == 58 || d == 46 || d == 61) by rw [hl]; show (!(d == 58 || d == 46 || d == 61) && true) = _; rw [Bool.and_true])
  obtain ⟨hi, h0⟩ := at_drop hl
  have h1 : (i : Int) < (s.size : Int) := by omega
  obtain ⟨hi2, h3⟩ := at_drop (drop_next hl)
  have h2 : (i : Int) + 1 < (s.size : Int) := by omega
  have hw : wrap64 ((i : Int) + 1) = (i : Int) + 1 := IntWalk.wrap64_in _ (by omega)
  clear hl hz
  by_cases q1 : d = 58
  · have e1 : ((d.toNat : Int) == 58) = true := tst d 58 58 rfl _ (by simp [q1])
    have HV2 := Lib.hid (show (!(d == 58 || d == 46 || d == 61)) = false by simp [q1])
    clear q1
    go_enter Try.func63, Try.ntmps63
    go_wp2_with fail
    go_ret
    exact ⟨by rw [HV.out, HV2.out]; rfl, rfl⟩
  · by_cases q2 : d = 46
    · have e1 : ((d.toNat : Int) == 58) = false := tst d 58 58 rfl _ (by simp [q1])
      have e2 : ((d.toNat : Int) == 46) = true := tst d 46 46 rfl _ (by simp [q2])
      have HV2 := Lib.hid (show (!(d == 58 || d == 46 || d == 61)) = false by simp [q2])
      clear q1 q2
      go_enter Try.func63, Try.ntmps63
      go_wp2_with fail
      go_ret
      exact ⟨by rw [HV.out, HV2.out]; rfl, rfl⟩
    · by_cases q3 : d = 61
      · have e1 : ((d.toNat : Int) == 58) = false := tst d 58 58 rfl _ (by simp [q1])
        have e2 : ((d.toNat : Int) == 46) = false := tst d 46 46 rfl _ (by simp [q2])
        have e3 : ((d.toNat : Int) == 61) = true := tst d 61 61 rfl _ (by simp [q3])
        have HV2 := Lib.hid (show (!(d == 58 || d == 46 || d == 61)) = false by simp [q3])
        clear q1 q2 q3
        go_enter Try.func63, Try.ntmps63
        go_wp2_with fail
        go_ret
        exact ⟨by rw [HV.out, HV2.out]; rfl, rfl⟩
      · have e1 : ((d.toNat : Int) == 58) = false := tst d 58 58 rfl _ (by simp [q1])
        have e2 : ((d.toNat : Int) == 46) = false := tst d 46 46 rfl _ (by simp [q2])
        have e3 : ((d.toNat : Int) == 61) = false := tst d 61 61 rfl _ (by simp [q3])
        have HV2 := Lib.hid (show (!(d == 58 || d == 46 || d == 61)) = true by simp [q1, q2, q3])
        clear q1 q2 q3
        go_enter Try.func63, Try.ntmps63
        go_wp2_with fail
        go_ret
        exact ⟨by rw [HV.out, HV2.out]; rfl, rfl⟩
set_option maxRecDepth 100000 in
theorem single_other (s : ByteArray) (i : Nat) (f : Bool) {c : UInt8} {r : List UInt8} (hl : s.data.toList.drop i = c :: r) (n1 : c ≠ 10) (n2 : c ≠ 93) (n3 : c ≠ 91) (w : World) : Calls Try.prog 63 #[.string s, .int .i64 (i : Int), .bool f] w fun e w' => e = .returned (.bool (sgl (s.data.toList.drop i) f)) ∧ w' = w := by
  have HV := Lib.hid (show sgl (s.data.toList.drop i) f = true by rw [hl]; cases r <;> simp [sgl, byteOf, n1, n2, n3])
  obtain ⟨hi, h0⟩ := at_drop hl
  have h1 : (i : Int) < (s.size : Int) := by omega
  have e1 : ((c.toNat : Int) == 10) = false := tst c 10 10 rfl _ (by simp [n1])
  have e2 : ((c.toNat : Int) == 93) = false := tst c 93 93 rfl _ (by simp [n2])
  have e3 : ((c.toNat : Int) == 91) = false := tst c 91 91 rfl _ (by simp [n3])
  clear hl n1 n2 n3
  go_enter Try.func63, Try.ntmps63
  go_wp2_with fail
  go_ret
  exact ⟨by rw [HV.out]; rfl, rfl⟩
theorem single_is (s : ByteArray) (i : Nat) (f : Bool) (hz : s.size ≤ 281474976710656) (w : World) : Calls Try.prog 63 #[.string s, .int .i64 (i : Int), .bool f] w fun e w' => e = .returned (.bool (sgl (s.data.toList.drop i) f)) ∧ w' = w := by
  match hl : s.data.toList.drop i with
  | [] => rw [← hl]; exact single_end s i f hl w
  | c :: r =>
    by_cases n1 : c = 10
    · subst n1; rw [← hl]; exact single_feed s i f hl w
    · by_cases n2 : c = 93
      · subst n2; rw [← hl]; exact single_close s i f hl w
      · by_cases n3 : c = 91
        · subst n3
          match r with
          | [] => rw [← hl]; exact single_last s i f hz hl w
          | d :: q => rw [← hl]; exact single_open s i f hz hl w
        · rw [← hl]; exact single_other s i f hl n1 n2 n3 w
end Go.Proofs.Ytpeidgppcdkjdaa
