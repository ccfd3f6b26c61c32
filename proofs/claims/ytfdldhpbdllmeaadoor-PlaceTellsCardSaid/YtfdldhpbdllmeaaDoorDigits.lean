/-
  The walk of the reference's Digits at a number that is not below 0: its decimal digits. Condition: the number is an int64's.
-/
import Derived.Test.YtfdldhpbdllmeaaDoorWalks
import Derived.Handy
import Derived.Lib.ItoaLen
import Derived.Lib.ItoaMem
namespace Go.Proofs.YtfdldhpbdllmeaaDoor
open Go.RowKit

abbrev tens : ByteArray := { data := #[48, 49, 50, 51, 52, 53, 54, 55, 56, 57] }
theorem tens_at (d : Nat) (h : d < 10) : (tens.extract d (d + 1)).data.toList = [UInt8.ofNat (48 + d)] := by
  have : d = 0 ∨ d = 1 ∨ d = 2 ∨ d = 3 ∨ d = 4 ∨ d = 5 ∨ d = 6 ∨ d = 7 ∨ d = 8 ∨ d = 9 := by omega
  rcases this with rfl | rfl | rfl | rfl | rfl | rfl | rfl | rfl | rfl | rfl <;> decide

/-- What holds at each round's head: n is what is left of u, t is what is written. -/
def DigRel (u n : Nat) (t : ByteArray) : Prop := (t.data.toList = [] ∧ n = u) ∨ (t.data.toList ≠ [] ∧ Lib.decDigits u = (if n = 0 then [] else Lib.decDigits n) ++ t.data.toList)

theorem dig_next (u n : Nat) (t : ByteArray) (h : DigRel u n t) (hn : 0 < n ∨ t.data.toList = []) : DigRel u (n / 10) (tens.extract (n % 10) (n % 10 + 1) ++ t) := by
  have e : (tens.extract (n % 10) (n % 10 + 1) ++ t).data.toList = UInt8.ofNat (48 + n % 10) :: t.data.toList := by
    have := tens_at (n % 10) (by omega)
    rw [show (tens.extract (n % 10) (n % 10 + 1) ++ t).data.toList = (tens.extract (n % 10) (n % 10 + 1)).data.toList ++ t.data.toList by simp, this]
    rfl
  refine .inr ⟨by rw [e]; simp, ?_⟩
  rw [e]
  have key : ∀ m : Nat, Lib.decDigits m = (if m / 10 = 0 then [] else Lib.decDigits (m / 10)) ++ [UInt8.ofNat (48 + m % 10)] := by
    intro m
    by_cases hm : m < 10
    · rw [Lib.decDigits_one hm, if_pos (by omega), Nat.mod_eq_of_lt hm]; rfl
    · rw [Lib.decDigits, dif_neg hm, if_neg (by omega)]
  rcases h with ⟨h1, h2⟩ | ⟨h1, h2⟩
  · rw [h1, ← h2]; exact key n
  · have hn0 : 0 < n := by
      rcases hn with h | h
      · exact h
      · exact absurd h h1
    rw [h2, if_neg (by omega), key n, List.append_assoc]
    rfl

set_option maxHeartbeats 400000 in
theorem refDigits_any (u : Nat) (w : World) (hu : u ≤ 9223372036854775807) :
    Calls Tryd.prog 30 #[.int .i64 u] w fun e w' => ∃ t : ByteArray, e = .returned (.string t) ∧ t.data.toList = Lib.decDigits u ∧ w = w' := by
  go_enter Tryd.func30, Tryd.ntmps30
  go_wp2
  go_loop [0, 3] (fun i t => ∃ (n : Nat) (b : ByteArray), n ≤ u ∧ i = .int .i64 n ∧ t = .string b ∧ DigRel u n b) (fun i t => (intOf i).toNat * 2 + (match t with | .string b => if b.data.toList = [] then 1 else 0 | _ => 0))
  case atStart => exact ⟨u, { data := #[] }, Nat.le_refl _, rfl, rfl, .inl ⟨rfl, rfl⟩⟩
  case round =>
    obtain ⟨n, b, hn, rfl, rfl, hr⟩ := hrel
    have hz : b.size ≤ 21 := by
      have hl := Lib.itoa_length_le (u : Int) (by omega) (by omega)
      rw [Lib.itoa_nonneg] at hl
      have e : b.data.toList.length = b.size := by simp
      rcases hr with ⟨h1, _⟩ | ⟨_, h2⟩
      · rw [h1] at e; simp at e; omega
      · rw [h2, List.length_append] at hl; omega
    by_cases hb : b.data.toList = []
    · have hb' : b.toList.isEmpty = true := by rw [ByteArray.toList_eq, hb]; rfl
      have HN := Lib.hid (dig_next u n b hr (.inr hb))
      have HB := Lib.hid hb
      clear hb hr
      by_cases h0 : n = 0
      · subst h0
        go_wp2
        go_round
        case rel => exact ⟨0, _, Nat.zero_le _, rfl, rfl, HN.out⟩
        case measure =>
          have : (tens.extract 0 1 ++ b).data.toList ≠ [] := by simp
          simp only [intOf, if_neg this, if_pos HB.out]
          omega
      · have h1 : 0 < n := by omega
        go_wp2
        go_round
        case rel => exact ⟨n / 10, _, by omega, by go_num, rfl, HN.out⟩
        case measure =>
          simp only [intOf]
          split <;> split <;> omega
    · have hb' : b.toList.isEmpty = false := by rw [ByteArray.toList_eq]; simpa using hb
      by_cases h0 : n = 0
      · subst h0
        have HD : Hid (b.data.toList = Lib.decDigits u) := Lib.hid (by
          rcases hr with ⟨h1, _⟩ | ⟨_, h2⟩
          · exact absurd h1 hb
          · rw [h2]; rfl)
        clear hr hb
        go_wp2
        go_ret
        exact ⟨b, rfl, HD.out, rfl⟩
      · have h1 : 0 < n := by omega
        have HN := Lib.hid (dig_next u n b hr (.inl h1))
        clear hb hr
        go_wp2
        go_round
        case rel => exact ⟨n / 10, _, by omega, by go_num, rfl, HN.out⟩
        case measure =>
          simp only [intOf]
          split <;> split <;> omega
end Go.Proofs.YtfdldhpbdllmeaaDoor
