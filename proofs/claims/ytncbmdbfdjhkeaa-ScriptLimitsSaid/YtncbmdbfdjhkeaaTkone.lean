/-
  Whether a number is an index of a text, and whether one of some bytes stands there. No condition.
-/
import Derived.Test.YtncbmdbfdjhkeaaTkst
import Derived.Test.YtncbmdbfdjhkeaaTkmod
import Derived.Lib.IndexAny
import Derived.BigQuiet
import Derived.Deep.QuietTactic
namespace Go.Proofs.Ytncbmdbfdjhkeaa
open Go.RowKit

theorem tk_at_of {s : ByteArray} {l : List UInt8} (h : s.data.toList = l) {i : Nat} {c : UInt8} (hc : l[i]? = some c) : ∀ h : i < s.size, s[i]'h = c := by
  intro hi
  subst h
  have : s.data[i]? = some c := by simpa using hc
  have h2 : s.data[i]'hi = c := by
    rw [Array.getElem?_eq_getElem hi] at this
    exact Option.some.inj this
  exact h2
theorem tk_u8_test (c : UInt8) (n : Nat) (k : UInt8) (hk : k.toNat = n) : (((c.toNat : Nat) : Int) == (n : Int)) = (c == k) := by
  rw [Bool.eq_iff_iff]
  simp only [beq_iff_eq]
  constructor
  · intro h
    apply UInt8.toNat_inj.1
    omega
  · intro h
    subst h
    rw [hk]
theorem tk_size_of {s : ByteArray} {l : List UInt8} (h : s.data.toList = l) : s.size = l.length := by rw [← h]; simp
def oneF (s l : List UInt8) (i : Int) : Bool := if 0 ≤ i then (match l[i.toNat]? with | some c => s.contains c | none => false) else false
theorem oneF_neg {s l : List UInt8} {i : Int} (h : i < 0) : oneF s l i = false := if_neg (by omega)
theorem oneF_big {s l : List UInt8} {i : Int} (h : (l.length : Int) ≤ i) : oneF s l i = false := by
  unfold oneF
  split
  · rw [List.getElem?_eq_none (by omega)]
  · rfl
theorem oneF_at {s l : List UInt8} {k : Nat} {c : UInt8} (h : l[k]? = some c) : oneF s l (k : Int) = s.contains c := by
  unfold oneF
  rw [if_pos (by omega)]
  simp [h]

set_option maxRecDepth 100000 in
theorem is_index (t : ByteArray) (i : Int) (w : World) : Calls Try.prog 40 #[.string t, .int .i64 i] w fun e w' => e = .returned (.bool (decide (0 ≤ i) && decide (i ≤ (t.size : Int)))) ∧ w' = w := by
  cases h1 : decide (0 ≤ i) with
  | false =>
    have g1 : decide (i ≥ 0) = false := h1
    clear h1
    go_enter Try.func40, Try.ntmps40
    go_wp2_with fail
    go_ret
    exact ⟨rfl, rfl⟩
  | true =>
    have g1 : decide (i ≥ 0) = true := h1
    clear h1
    go_enter Try.func40, Try.ntmps40
    go_wp2_with fail
    go_ret
    exact ⟨by simp, rfl⟩
set_option maxRecDepth 100000 in
theorem tk_one_of (s t : ByteArray) (i : Int) (w : World) : Calls Try.prog 38 #[.string s, .string t, .int .i64 i] w fun e w' => e = .returned (.bool (oneF s.data.toList t.data.toList i)) ∧ w' = w := by
  by_cases h0 : i < 0
  · have g1 : decide (i ≥ 0) = false := decide_eq_false (by omega)
    have HR := Lib.hid (oneF_neg (s := s.data.toList) (l := t.data.toList) h0)
    clear h0
    go_enter Try.func38, Try.ntmps38
    go_wp2_with fail
    go_ret
    exact ⟨by rw [HR.out]; rfl, rfl⟩
  · have g1 : decide (i ≥ 0) = true := decide_eq_true (by omega)
    by_cases h2 : i < (t.size : Int)
    · have g2 : decide (i < (t.size : Int)) = true := decide_eq_true h2
      obtain ⟨k, rfl⟩ : ∃ k : Nat, i = (k : Int) := ⟨i.toNat, by omega⟩
      have hk : k < t.size := by omega
      obtain ⟨c, hc⟩ : ∃ c, t.data.toList[k]? = some c := ⟨_, List.getElem?_eq_getElem (by simpa using hk)⟩
      have hat := tk_at_of rfl hc
      have HX := Lib.hid (st_index s (c.toNat : Int))
      rw [show ((c.toNat : Int)).toNat.toUInt8 = c by simp] at HX
      have HR := Lib.hid (show oneF s.data.toList t.data.toList (k : Int) = decide (0 ≤ Lib.indexByte s.data.toList c) by
        rw [oneF_at hc, Lib.contains_iff_indexByte])
      obtain ⟨x, hx⟩ : ∃ x, x = Lib.indexByte s.data.toList c := ⟨_, rfl⟩
      rw [← hx] at HX HR
      clear hx hc h2 h0 g1
      go_enter Try.func38, Try.ntmps38
      go_wp2_with fail
      go_at_call 23
      refine (HX.out _).mono ?_
      rintro e w1 ⟨rfl, rfl⟩
      go_wp2_with fail
      go_ret
      exact ⟨by rw [HR.out]; rfl, rfl⟩
    · have g2 : decide (i < (t.size : Int)) = false := decide_eq_false h2
      have HR := Lib.hid (oneF_big (s := s.data.toList) (l := t.data.toList) (i := i) (by rw [← tk_size_of rfl]; omega))
      clear h2
      go_enter Try.func38, Try.ntmps38
      go_wp2_with fail
      go_ret
      exact ⟨by rw [HR.out]; rfl, rfl⟩
end Go.Proofs.Ytncbmdbfdjhkeaa
