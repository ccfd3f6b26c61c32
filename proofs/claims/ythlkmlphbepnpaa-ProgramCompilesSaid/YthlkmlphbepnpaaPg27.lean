/-
  The document's Deep, walked: it is the program's, whatever the commands. Condition: at most a million of them.
-/
import Derived.Test.YthlkmlphbepnpaaPg26
namespace Go.Proofs.Ythlkmlphbepnpaa
open Go.RowKit Go.Deep

theorem dpF_mono (N : Nat → Int) : ∀ i, (dpF N i).1 ≤ (dpF N i).2
  | 0 => Nat.le_refl _
  | i + 1 => by
    have h := dpF_mono N i
    unfold dpF
    split
    · show (dpF N i).1 + 1 ≤ max (dpF N i).2 ((dpF N i).1 + 1)
      omega
    · split
      · show (dpF N i).1 - 1 ≤ (dpF N i).2
        omega
      · exact h
set_option maxRecDepth 100000 in
set_option maxHeartbeats 4000000 in
theorem deepd_is {l : List CM} {cl : Nat} {A : Option Addr} {w : World} (hr : RawAt w A (cmV l)) (hl : l.length ≤ 1048576) :
    Calls Try.prog 17 #[.slice A l.length cl] w fun e w' => e = .returned (.int .i64 ((dpF (cN l) l.length).2 : Int)) ∧ w' = w := by
  have HR := Lib.hid hr
  have HL := Lib.hid hl
  clear hr hl
  go_enter Try.func17, Try.ntmps17
  go_wp2_with fail
  go_loopw [3, 4, 5] (fun ov mv v wz => ∃ m p q : Nat, v = .int .i64 (m : Int) ∧ ov = .int .i64 (p : Int) ∧ mv = .int .i64 (q : Int) ∧ Hid (m ≤ l.length ∧ dpF (cN l) m = (p, q)) ∧ wz = w) (fun _ _ v _ => l.length + 1 - (intOf v).toNat)
  case atStart => exact ⟨0, 0, 0, rfl, rfl, rfl, Lib.hid ⟨Nat.zero_le _, rfl⟩, rfl⟩
  case round =>
    obtain ⟨m, p, q, rfl, rfl, rfl, HJ, rfl⟩ := hrel
    have hle := HJ.out.1
    have hl := HL.out
    by_cases hm : m < l.length
    case neg =>
      have hd : decide ((m : Int) < (l.length : Int)) = false := decide_eq_false (by omega)
      have hdn : decide (m < l.length) = false := decide_eq_false hm
      have hll : (l.length : Int) ≤ (m : Int) := by omega
      have HE := Lib.hid (show (dpF (cN l) l.length).2 = q by rw [show l.length = m by omega, HJ.out.2])
      clear hle hm hl
      go_wp2_with fail
      go_ret
      exact ⟨by rw [HE.out]; rfl, rfl⟩
    obtain ⟨c, hc⟩ : ∃ c, l[m]? = some c := ⟨l[m], by simp [hm]⟩
    obtain ⟨g, o, rfl, kN, _, _⟩ := row_name HR.out hc
    have hli : (m : Int) < (l.length : Int) := by omega
    have hd : decide ((m : Int) < (l.length : Int)) = true := decide_eq_true hli
    have hdn : decide (m < l.length) = true := decide_eq_true hm
    have hpq := dpF_le (cN l) m
    have hmo := dpF_mono (cN l) m
    rw [HJ.out.2] at hpq hmo
    simp only at hpq hmo
    have hadd : IntKind.i64.wrap ((m : Int) + 1) = ((m + 1 : Nat) : Int) := by rw [IntWalk.i64_in _ (by omega)]; omega
    have hp1 : IntKind.i64.wrap ((p : Int) + 1) = ((p + 1 : Nat) : Int) := by rw [IntWalk.i64_in _ (by omega)]; omega
    have hp2 : IntKind.i64.wrap ((p : Int) - 1) = (p : Int) - 1 := IntWalk.i64_in _ (by omega)
    obtain ⟨m1, hm1⟩ : ∃ m1, m1 = m + 1 := ⟨_, rfl⟩
    obtain ⟨p1, hp1e⟩ : ∃ p1, p1 = p + 1 := ⟨_, rfl⟩
    rw [← hm1] at hadd
    rw [← hp1e] at hp1
    have HM := Lib.hid (And.intro hm1 hm)
    have HNN := cN_at hc
    have HPQ := Lib.hid hmo
    have HP1 := Lib.hid hp1e
    by_cases h1 : c.name = 123
    · have g1 : (c.name == 123) = true := by rw [h1]; rfl
      have g2 : (c.name == 125) = false := by rw [h1]; rfl
      have HN := Lib.hid (show m1 ≤ l.length ∧ dpF (cN l) m1 = (p1, max q p1) from ⟨by omega, by rw [hm1, dpF_open (by rw [HNN]; exact h1), HJ.out.2, hp1e]⟩)
      clear h1 hp2 hle hm hm1 hp1e hc hpq hl hmo HNN
      go_wp2_with fail
      go_roundw
      case rel => exact ⟨m1, p1, max q p1, rfl, rfl, by rw [show (max (q : Int) (p1 : Int)) = ((max q p1 : Nat) : Int) by omega], HN, trivial⟩
      case measure => have := HM.out; simp [intOf] <;> omega
    · have g1 : (c.name == 123) = false := by rw [beq_eq_false_iff_ne]; exact h1
      by_cases h2 : c.name = 125
      · have g2 : (c.name == 125) = true := by rw [h2]; rfl
        by_cases hp : p = 0
        · have g3 : decide ((0 : Int) < (p : Int)) = false := decide_eq_false (by omega)
          have g3n : decide (0 < p) = false := decide_eq_false (by omega)
          have g3i : (p : Int) ≤ 0 := by omega
          have HN := Lib.hid (show m1 ≤ l.length ∧ dpF (cN l) m1 = (p, q) from ⟨by omega, by rw [hm1, dpF_shut (by rw [HNN]; exact h2), HJ.out.2]; simp only [Prod.mk.injEq, and_true]; omega⟩)
          clear h1 h2 hp1 hp2 hle hm hm1 hp1e hc hpq hl hmo HNN hp
          go_wp2_with fail
          go_roundw
          case rel => exact ⟨m1, p, q, rfl, rfl, by rw [show (max (q : Int) (p : Int)) = (q : Int) by have := HPQ.out; omega], HN, trivial⟩
          case measure => have := HM.out; simp [intOf] <;> omega
        · have g3 : decide ((0 : Int) < (p : Int)) = true := decide_eq_true (by omega)
          have g3n : decide (0 < p) = true := decide_eq_true (by omega)
          have g3i : (0 : Int) < (p : Int) := by omega
          have g3m : ¬ (p : Int) ≤ 0 := by omega
          have HN := Lib.hid (show m1 ≤ l.length ∧ dpF (cN l) m1 = (p - 1, q) from ⟨by omega, by rw [hm1, dpF_shut (by rw [HNN]; exact h2), HJ.out.2]⟩)
          have HPP := Lib.hid hp
          clear h1 h2 hp1 hle hm hm1 hp1e hc hpq hl hmo HNN hp
          go_wp2_with fail
          go_roundw
          case rel => exact ⟨m1, p - 1, q, rfl, by rw [show (p : Int) - 1 = ((p - 1 : Nat) : Int) by have := HPP.out; omega], by rw [show (max (q : Int) ((p : Int) - 1)) = (q : Int) by have := HPQ.out; omega], HN, trivial⟩
          case measure => have := HM.out; simp [intOf] <;> omega
      · have g2 : (c.name == 125) = false := by rw [beq_eq_false_iff_ne]; exact h2
        have HN := Lib.hid (show m1 ≤ l.length ∧ dpF (cN l) m1 = (p, q) from ⟨by omega, by rw [hm1, dpF_other (by rw [HNN]; exact h1) (by rw [HNN]; exact h2), HJ.out.2]⟩)
        clear h1 h2 hp1 hp2 hle hm hm1 hp1e hc hpq hl hmo HNN
        go_wp2_with fail
        go_roundw
        case rel => exact ⟨m1, p, q, rfl, rfl, by rw [show (max (q : Int) (p : Int)) = (q : Int) by have := HPQ.out; omega], HN, trivial⟩
        case measure => have := HM.out; simp [intOf] <;> omega
end Go.Proofs.Ythlkmlphbepnpaa
