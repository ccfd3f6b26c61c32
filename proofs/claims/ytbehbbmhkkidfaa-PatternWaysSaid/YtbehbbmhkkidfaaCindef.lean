/-
  Which bytes a name has, as the document tells it. No condition.
-/
import Derived.Test.YtbehbbmhkkidfaaCnamed
namespace Go.Proofs.Ytbehbbmhkkidfaa
open Go.RowKit

/-- 1: the byte is in the name's set; 0: it is not; -1: there is no such name. -/
def inS (l : List UInt8) (c : Nat) : Int :=
  if l = [97, 108, 112, 104, 97] then (if (65 ≤ c ∧ c ≤ 90) ∨ (97 ≤ c ∧ c ≤ 122) then 1 else 0) else
  if l = [100, 105, 103, 105, 116] then (if (48 ≤ c ∧ c ≤ 57) then 1 else 0) else
  if l = [97, 108, 110, 117, 109] then (if (48 ≤ c ∧ c ≤ 57) ∨ (65 ≤ c ∧ c ≤ 90) ∨ (97 ≤ c ∧ c ≤ 122) then 1 else 0) else
  if l = [117, 112, 112, 101, 114] then (if (65 ≤ c ∧ c ≤ 90) then 1 else 0) else
  if l = [108, 111, 119, 101, 114] then (if (97 ≤ c ∧ c ≤ 122) then 1 else 0) else
  if l = [115, 112, 97, 99, 101] then (if (9 ≤ c ∧ c ≤ 13) ∨ (32 ≤ c ∧ c ≤ 32) then 1 else 0) else
  if l = [98, 108, 97, 110, 107] then (if (9 ≤ c ∧ c ≤ 9) ∨ (32 ≤ c ∧ c ≤ 32) then 1 else 0) else
  if l = [112, 117, 110, 99, 116] then (if (33 ≤ c ∧ c ≤ 47) ∨ (58 ≤ c ∧ c ≤ 64) ∨ (91 ≤ c ∧ c ≤ 96) ∨ (123 ≤ c ∧ c ≤ 126) then 1 else 0) else
  if l = [112, 114, 105, 110, 116] then (if (32 ≤ c ∧ c ≤ 126) then 1 else 0) else
  if l = [103, 114, 97, 112, 104] then (if (33 ≤ c ∧ c ≤ 126) then 1 else 0) else
  if l = [99, 110, 116, 114, 108] then (if (0 ≤ c ∧ c ≤ 31) ∨ (127 ≤ c ∧ c ≤ 127) then 1 else 0) else
  if l = [120, 100, 105, 103, 105, 116] then (if (48 ≤ c ∧ c ≤ 57) ∨ (65 ≤ c ∧ c ≤ 70) ∨ (97 ≤ c ∧ c ≤ 102) then 1 else 0) else
  -1
def isName (l : List UInt8) : Bool := l == [97, 108, 112, 104, 97] || l == [100, 105, 103, 105, 116] || l == [97, 108, 110, 117, 109] || l == [117, 112, 112, 101, 114] || l == [108, 111, 119, 101, 114] || l == [115, 112, 97, 99, 101] || l == [98, 108, 97, 110, 107] || l == [112, 117, 110, 99, 116] || l == [112, 114, 105, 110, 116] || l == [103, 114, 97, 112, 104] || l == [99, 110, 116, 114, 108] || l == [120, 100, 105, 103, 105, 116]
theorem inS_alpha (c : Nat) : inS [97, 108, 112, 104, 97] c = if (65 ≤ c ∧ c ≤ 90) ∨ (97 ≤ c ∧ c ≤ 122) then 1 else 0 := rfl
theorem inS_digit (c : Nat) : inS [100, 105, 103, 105, 116] c = if (48 ≤ c ∧ c ≤ 57) then 1 else 0 := rfl
theorem inS_alnum (c : Nat) : inS [97, 108, 110, 117, 109] c = if (48 ≤ c ∧ c ≤ 57) ∨ (65 ≤ c ∧ c ≤ 90) ∨ (97 ≤ c ∧ c ≤ 122) then 1 else 0 := rfl
theorem inS_upper (c : Nat) : inS [117, 112, 112, 101, 114] c = if (65 ≤ c ∧ c ≤ 90) then 1 else 0 := rfl
theorem inS_lower (c : Nat) : inS [108, 111, 119, 101, 114] c = if (97 ≤ c ∧ c ≤ 122) then 1 else 0 := rfl
theorem inS_space (c : Nat) : inS [115, 112, 97, 99, 101] c = if (9 ≤ c ∧ c ≤ 13) ∨ (32 ≤ c ∧ c ≤ 32) then 1 else 0 := rfl
theorem inS_blank (c : Nat) : inS [98, 108, 97, 110, 107] c = if (9 ≤ c ∧ c ≤ 9) ∨ (32 ≤ c ∧ c ≤ 32) then 1 else 0 := rfl
theorem inS_punct (c : Nat) : inS [112, 117, 110, 99, 116] c = if (33 ≤ c ∧ c ≤ 47) ∨ (58 ≤ c ∧ c ≤ 64) ∨ (91 ≤ c ∧ c ≤ 96) ∨ (123 ≤ c ∧ c ≤ 126) then 1 else 0 := rfl
theorem inS_print (c : Nat) : inS [112, 114, 105, 110, 116] c = if (32 ≤ c ∧ c ≤ 126) then 1 else 0 := rfl
theorem inS_graph (c : Nat) : inS [103, 114, 97, 112, 104] c = if (33 ≤ c ∧ c ≤ 126) then 1 else 0 := rfl
theorem inS_cntrl (c : Nat) : inS [99, 110, 116, 114, 108] c = if (0 ≤ c ∧ c ≤ 31) ∨ (127 ≤ c ∧ c ≤ 127) then 1 else 0 := rfl
theorem inS_xdigit (c : Nat) : inS [120, 100, 105, 103, 105, 116] c = if (48 ≤ c ∧ c ≤ 57) ∨ (65 ≤ c ∧ c ≤ 70) ∨ (97 ≤ c ∧ c ≤ 102) then 1 else 0 := rfl
end Go.Proofs.Ytbehbbmhkkidfaa
