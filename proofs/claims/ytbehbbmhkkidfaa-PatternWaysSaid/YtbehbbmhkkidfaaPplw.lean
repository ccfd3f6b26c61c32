/-
  The law's plain: letters and figures alone, and not too many. No condition.
-/
import Derived.Test.YtbehbbmhkkidfaaPsh
import Derived.Test.YtbehbbmhkkidfaaPraw
import Derived.Deep.Cut
import Derived.Deep.CutRange
import Derived.BigGuard
namespace Go.Proofs.Ytbehbbmhkkidfaa
open Go.RowKit Go.Deep

def PlainN (v : Nat) : Prop := (97 ≤ v ∧ v ≤ 122) ∨ (65 ≤ v ∧ v ≤ 90) ∨ (48 ≤ v ∧ v ≤ 57)
theorem PlainN.byte {c : UInt8} (h : PlainN c.toNat) : Plain c := by
  unfold Plain
  simp only [UInt8.le_iff_toNat_le]
  exact h
def PlainTo (s : ByteArray) (i : Nat) : Prop := ∀ (j : Nat) (h : j < s.size), j < i → PlainN s[j].toNat
theorem PlainTo.next {s : ByteArray} {i : Nat} (h : PlainTo s i) (hi : ∀ h : i < s.size, PlainN s[i].toNat) : PlainTo s (i + 1) := fun j hj hji => by
  by_cases e : j = i
  · subst e
    exact hi hj
  · exact h j hj (by omega)
theorem PlainTo.all {s : ByteArray} (h : PlainTo s s.size) : ∀ c ∈ s.data.toList, Plain c := fun c hc => by
  obtain ⟨j, hj, e⟩ := List.mem_iff_getElem.1 hc
  have hl : s.data.toList.length = s.size := by simp
  have := h j (by omega) (by omega)
  refine PlainN.byte ?_
  rw [← e]
  exact this
def PlainAns (s : ByteArray) (w : World) (e : Ending) (w' : World) : Prop := ∃ b, e = .returned (.bool b) ∧ w' = w ∧ (b = true → (∀ c ∈ s.data.toList, Plain c) ∧ 1 ≤ s.size ∧ s.size ≤ 200)
theorem msr_lt {a i : Nat} (h : i < a) : a - ((i : Int) + 1).toNat < a - ((i : Int)).toNat := by omega
theorem cls0 {v : Nat} (_h1 : 0 ≤ v) (_h2 : v ≤ 47) : decide ((v : Int) < (97 : Int)) = true ∧ decide ((v : Int) < (65 : Int)) = true ∧ decide ((v : Int) < (48 : Int)) = true ∧ decide ((122 : Int) < (v : Int)) = false ∧ decide ((90 : Int) < (v : Int)) = false ∧ decide ((57 : Int) < (v : Int)) = false :=
  ⟨decide_eq_true (by omega), decide_eq_true (by omega), decide_eq_true (by omega), decide_eq_false (by omega), decide_eq_false (by omega), decide_eq_false (by omega)⟩
theorem cls1 {v : Nat} (_h1 : 48 ≤ v) (_h2 : v ≤ 57) : decide ((v : Int) < (97 : Int)) = true ∧ decide ((v : Int) < (65 : Int)) = true ∧ decide ((v : Int) < (48 : Int)) = false ∧ decide ((122 : Int) < (v : Int)) = false ∧ decide ((90 : Int) < (v : Int)) = false ∧ decide ((57 : Int) < (v : Int)) = false :=
  ⟨decide_eq_true (by omega), decide_eq_true (by omega), decide_eq_false (by omega), decide_eq_false (by omega), decide_eq_false (by omega), decide_eq_false (by omega)⟩
theorem cls2 {v : Nat} (_h1 : 58 ≤ v) (_h2 : v ≤ 64) : decide ((v : Int) < (97 : Int)) = true ∧ decide ((v : Int) < (65 : Int)) = true ∧ decide ((v : Int) < (48 : Int)) = false ∧ decide ((122 : Int) < (v : Int)) = false ∧ decide ((90 : Int) < (v : Int)) = false ∧ decide ((57 : Int) < (v : Int)) = true :=
  ⟨decide_eq_true (by omega), decide_eq_true (by omega), decide_eq_false (by omega), decide_eq_false (by omega), decide_eq_false (by omega), decide_eq_true (by omega)⟩
theorem cls3 {v : Nat} (_h1 : 65 ≤ v) (_h2 : v ≤ 90) : decide ((v : Int) < (97 : Int)) = true ∧ decide ((v : Int) < (65 : Int)) = false ∧ decide ((v : Int) < (48 : Int)) = false ∧ decide ((122 : Int) < (v : Int)) = false ∧ decide ((90 : Int) < (v : Int)) = false ∧ decide ((57 : Int) < (v : Int)) = true :=
  ⟨decide_eq_true (by omega), decide_eq_false (by omega), decide_eq_false (by omega), decide_eq_false (by omega), decide_eq_false (by omega), decide_eq_true (by omega)⟩
theorem cls4 {v : Nat} (_h1 : 91 ≤ v) (_h2 : v ≤ 96) : decide ((v : Int) < (97 : Int)) = true ∧ decide ((v : Int) < (65 : Int)) = false ∧ decide ((v : Int) < (48 : Int)) = false ∧ decide ((122 : Int) < (v : Int)) = false ∧ decide ((90 : Int) < (v : Int)) = true ∧ decide ((57 : Int) < (v : Int)) = true :=
  ⟨decide_eq_true (by omega), decide_eq_false (by omega), decide_eq_false (by omega), decide_eq_false (by omega), decide_eq_true (by omega), decide_eq_true (by omega)⟩
theorem cls5 {v : Nat} (_h1 : 97 ≤ v) (_h2 : v ≤ 122) : decide ((v : Int) < (97 : Int)) = false ∧ decide ((v : Int) < (65 : Int)) = false ∧ decide ((v : Int) < (48 : Int)) = false ∧ decide ((122 : Int) < (v : Int)) = false ∧ decide ((90 : Int) < (v : Int)) = true ∧ decide ((57 : Int) < (v : Int)) = true :=
  ⟨decide_eq_false (by omega), decide_eq_false (by omega), decide_eq_false (by omega), decide_eq_false (by omega), decide_eq_true (by omega), decide_eq_true (by omega)⟩
theorem cls6 {v : Nat} (_h1 : 123 ≤ v) (_h2 : v ≤ 255) : decide ((v : Int) < (97 : Int)) = false ∧ decide ((v : Int) < (65 : Int)) = false ∧ decide ((v : Int) < (48 : Int)) = false ∧ decide ((122 : Int) < (v : Int)) = true ∧ decide ((90 : Int) < (v : Int)) = true ∧ decide ((57 : Int) < (v : Int)) = true :=
  ⟨decide_eq_false (by omega), decide_eq_false (by omega), decide_eq_false (by omega), decide_eq_true (by omega), decide_eq_true (by omega), decide_eq_true (by omega)⟩
def PlRel (s : ByteArray) (iv : Value) : Prop := ∃ i : Nat, iv = .int .i64 (i : Int) ∧ i ≤ s.size ∧ PlainTo s i
set_option maxRecDepth 100000 in
set_option maxHeartbeats 1000000 in
theorem plain_is (s : ByteArray) (hz : s.size < 140737488355328) (w : World) : Calls Try.prog 6 #[.string s] w (PlainAns s w) := by
  have HZ := Lib.hid hz
  clear hz
  go_enter Try.func6, Try.ntmps6
  go_wp2_with fail
  go_loop [3, 4] (fun iv _ => PlRel s iv) (fun iv _ => s.size - (intOf iv).toNat)
  case atStart => exact ⟨0, rfl, Nat.zero_le _, fun j _ h => absurd h (Nat.not_lt_zero _)⟩
  case round =>
    obtain ⟨i, rfl, hi, hp⟩ := hrel
    have HP := Lib.hid hp
    clear hp
    by_cases hlt : i < s.size
    · have hiI : (i : Int) < (s.size : Int) := by omega
      have hi0 : (0 : Int) ≤ (i : Int) := by omega
      have hib : i < 140737488355328 := Nat.lt_trans hlt HZ.out
      have hwr : wrap64 ((i : Int) + 1) = (i : Int) + 1 := IntWalk.wrap64_in _ (by omega)
      have hv8 : s[i].toNat < 256 := UInt8.toNat_lt _
      by_cases q0 : s[i].toNat ≤ 47
      · obtain ⟨z97, z65, z48, z122, z90, z57⟩ := cls0 (Nat.zero_le _) q0
        clear hv8 q0
        go_wp2_with fail
        go_ret
        exact ⟨false, rfl, rfl, fun h => by cases h⟩
      · skip
        by_cases q1 : s[i].toNat ≤ 57
        · obtain ⟨z97, z65, z48, z122, z90, z57⟩ := cls1 (Nat.lt_of_not_le q0) q1
          have HN := Lib.hid (HP.out.next (fun _ => .inr (.inr ⟨Nat.lt_of_not_le q0, q1⟩)))
          clear hv8 q0 q1
          go_upto_region 5 with fail
          go_cut [35] from 5 to 35 (fun t wx => t = .bool false ∧ wx = w)
          case first =>
            go_wp2_with fail
            go_meet
            case rel => exact ⟨rfl, rfl⟩
          obtain ⟨rfl, rfl⟩ := hcut
          clear z97 z65 z48 z122 z90 z57
          go_wp2_with fail
          go_round
          case rel => exact ⟨i + 1, by go_num, hlt, HN.out⟩
          case measure => simp only [intOf]; exact msr_lt hlt
        · skip
          by_cases q2 : s[i].toNat ≤ 64
          · obtain ⟨z97, z65, z48, z122, z90, z57⟩ := cls2 (Nat.lt_of_not_le q1) q2
            clear hv8 q0 q1 q2
            go_wp2_with fail
            go_ret
            exact ⟨false, rfl, rfl, fun h => by cases h⟩
          · skip
            by_cases q3 : s[i].toNat ≤ 90
            · obtain ⟨z97, z65, z48, z122, z90, z57⟩ := cls3 (Nat.lt_of_not_le q2) q3
              have HN := Lib.hid (HP.out.next (fun _ => .inr (.inl ⟨Nat.lt_of_not_le q2, q3⟩)))
              clear hv8 q0 q1 q2 q3
              go_upto_region 5 with fail
              go_cut [35] from 5 to 35 (fun t wx => t = .bool false ∧ wx = w)
              case first =>
                go_wp2_with fail
                go_meet
                case rel => exact ⟨rfl, rfl⟩
              obtain ⟨rfl, rfl⟩ := hcut
              clear z97 z65 z48 z122 z90 z57
              go_wp2_with fail
              go_round
              case rel => exact ⟨i + 1, by go_num, hlt, HN.out⟩
              case measure => simp only [intOf]; exact msr_lt hlt
            · skip
              by_cases q4 : s[i].toNat ≤ 96
              · obtain ⟨z97, z65, z48, z122, z90, z57⟩ := cls4 (Nat.lt_of_not_le q3) q4
                clear hv8 q0 q1 q2 q3 q4
                go_wp2_with fail
                go_ret
                exact ⟨false, rfl, rfl, fun h => by cases h⟩
              · skip
                by_cases q5 : s[i].toNat ≤ 122
                · obtain ⟨z97, z65, z48, z122, z90, z57⟩ := cls5 (Nat.lt_of_not_le q4) q5
                  have HN := Lib.hid (HP.out.next (fun _ => .inl ⟨Nat.lt_of_not_le q4, q5⟩))
                  clear hv8 q0 q1 q2 q3 q4 q5
                  go_upto_region 5 with fail
                  go_cut [35] from 5 to 35 (fun t wx => t = .bool false ∧ wx = w)
                  case first =>
                    go_wp2_with fail
                    go_meet
                    case rel => exact ⟨rfl, rfl⟩
                  obtain ⟨rfl, rfl⟩ := hcut
                  clear z97 z65 z48 z122 z90 z57
                  go_wp2_with fail
                  go_round
                  case rel => exact ⟨i + 1, by go_num, hlt, HN.out⟩
                  case measure => simp only [intOf]; exact msr_lt hlt
                · skip
                  obtain ⟨z97, z65, z48, z122, z90, z57⟩ := cls6 (Nat.lt_of_not_le q5) (Nat.le_of_lt_succ hv8)
                  clear hv8 q0 q1 q2 q3 q4 q5
                  go_wp2_with fail
                  go_ret
                  exact ⟨false, rfl, rfl, fun h => by cases h⟩
    · have he : i = s.size := by omega
      subst he
      have hiI : ¬ (s.size : Int) < (s.size : Int) := by omega
      have HA := Lib.hid HP.out.all
      by_cases h1 : 1 ≤ s.size
      · have d1 : decide ((1 : Int) ≤ (s.size : Int)) = true := decide_eq_true (by omega)
        have d1n : decide (1 ≤ s.size) = true := decide_eq_true (by omega)
        have h1I : (1 : Int) ≤ (s.size : Int) := by omega
        by_cases h2 : s.size ≤ 200
        · have d2 : decide ((s.size : Int) ≤ 200) = true := decide_eq_true (by omega)
          have d2n : decide (s.size ≤ 200) = true := decide_eq_true (by omega)
          have HH := Lib.hid (And.intro h1 h2)
          clear h1 h2 hi hlt
          go_wp2_with fail
          go_ret
          exact ⟨true, rfl, rfl, fun _ => ⟨HA.out, HH.out.1, HH.out.2⟩⟩
        · have d2 : decide ((s.size : Int) ≤ 200) = false := decide_eq_false (by omega)
          have d2n : decide (s.size ≤ 200) = false := decide_eq_false (by omega)
          clear h1 h2 hi hlt
          go_wp2_with fail
          go_ret
          exact ⟨false, rfl, rfl, fun h => by cases h⟩
      · have d1 : decide ((1 : Int) ≤ (s.size : Int)) = false := decide_eq_false (by omega)
        have d1n : decide (1 ≤ s.size) = false := decide_eq_false (by omega)
        have h1I : ¬ (1 : Int) ≤ (s.size : Int) := by omega
        clear h1 hi hlt
        go_wp2_with fail
        go_ret
        exact ⟨false, rfl, rfl, fun h => by cases h⟩
end Go.Proofs.Ytbehbbmhkkidfaa
