/-
  Package program's Deep; commands built of a letter alone; the live question. Condition: at most a million commands.
-/
import Derived.Test.YthlkmlphbepnpaaPg9
namespace Go.Proofs.Ythlkmlphbepnpaa
open Go.RowKit Go.Deep

/-- How many braces stand open behind i commands, and at most. -/
def dpF (N : Nat → Int) : Nat → Nat × Nat
  | 0 => (0, 0)
  | i + 1 => if N i = 123 then ((dpF N i).1 + 1, max (dpF N i).2 ((dpF N i).1 + 1)) else if N i = 125 then ((dpF N i).1 - 1, (dpF N i).2) else dpF N i
theorem dpF_le (N : Nat → Int) : ∀ i, (dpF N i).1 ≤ i ∧ (dpF N i).2 ≤ i
  | 0 => ⟨Nat.le_refl _, Nat.le_refl _⟩
  | i + 1 => by
    obtain ⟨h1, h2⟩ := dpF_le N i
    unfold dpF
    split
    · exact ⟨by show (dpF N i).1 + 1 ≤ i + 1; omega, by show max (dpF N i).2 ((dpF N i).1 + 1) ≤ i + 1; omega⟩
    · split
      · exact ⟨by show (dpF N i).1 - 1 ≤ i + 1; omega, by show (dpF N i).2 ≤ i + 1; omega⟩
      · omega
theorem dpF_open {N : Nat → Int} {i : Nat} (h : N i = 123) : dpF N (i + 1) = ((dpF N i).1 + 1, max (dpF N i).2 ((dpF N i).1 + 1)) := by rw [dpF, if_pos h]
theorem dpF_shut {N : Nat → Int} {i : Nat} (h : N i = 125) : dpF N (i + 1) = ((dpF N i).1 - 1, (dpF N i).2) := by rw [dpF, if_neg (by omega), if_pos h]
theorem dpF_other {N : Nat → Int} {i : Nat} (h1 : N i ≠ 123) (h2 : N i ≠ 125) : dpF N (i + 1) = dpF N i := by rw [dpF, if_neg h1, if_neg h2]
set_option maxRecDepth 100000 in
set_option maxHeartbeats 4000000 in
theorem deep_is {l : List CM} {cl : Nat} {A : Option Addr} {w : World} (hr : RawAt w A (cmV l)) (hl : l.length ≤ 1048576) :
    Calls Try.prog 16 #[.slice A l.length cl] w fun e w' => e = .returned (.int .i64 ((dpF (cN l) l.length).2 : Int)) ∧ Below w.heap.size w w' := by
  have HR := Lib.hid (show ∀ W, Below w.heap.size w W → RawAt W A (cmV l) from fun W hW => hr.below hW)
  have HL := Lib.hid hl
  have HB0 := Lib.hid (Below.refl w.heap.size w)
  clear hr hl
  go_enter Try.func16, Try.ntmps16
  go_wp2_with fail
  go_loopw [3, 4, 6, 9] (fun ov mv _ v wz => ∃ m p q : Nat, v = .int .i64 (m : Int) ∧ ov = .int .i64 (p : Int) ∧ mv = .int .i64 (q : Int) ∧ Hid (m ≤ l.length ∧ dpF (cN l) m = (p, q) ∧ Below w.heap.size w wz)) (fun _ _ _ v _ => l.length + 1 - (intOf v).toNat)
  case atStart => exact ⟨0, 0, 0, rfl, rfl, rfl, Lib.hid ⟨Nat.zero_le _, rfl, HB0.out⟩⟩
  case round =>
    obtain ⟨m, p, q, rfl, rfl, rfl, HJ⟩ := hrel
    have hle := HJ.out.1
    by_cases hm : m < l.length
    case neg =>
      have hd : decide ((m : Int) < (l.length : Int)) = false := decide_eq_false (by omega)
      have hdn : decide (m < l.length) = false := decide_eq_false hm
      have hll : (l.length : Int) ≤ (m : Int) := by omega
      have HE := Lib.hid (show (dpF (cN l) l.length).2 = q by rw [show l.length = m by omega, HJ.out.2.1])
      clear hle hm
      go_wp2_with fail
      go_ret
      exact ⟨by rw [HE.out]; rfl, HJ.out.2.2⟩
    obtain ⟨c, hc⟩ : ∃ c, l[m]? = some c := ⟨l[m], by simp [hm]⟩
    obtain ⟨g, o, rfl, hcells⟩ := raw_elem CM.len (by omega) (HR.out _ HJ.out.2.2) hc
    have hgl : g < wr.heap.size := World.block_lt_of_cell? _ _ (hcells 0 _ rfl)
    have hli : (m : Int) < (l.length : Int) := by omega
    have hd : decide ((m : Int) < (l.length : Int)) = true := decide_eq_true hli
    have hdn : decide (m < l.length) = true := decide_eq_true hm
    have hml : m ≤ 1048576 := by have := HL.out; omega
    have hpq := dpF_le (cN l) m
    rw [HJ.out.2.1] at hpq
    simp only at hpq
    have hpl : p ≤ 1048576 := by omega
    have hadd : IntKind.i64.wrap ((m : Int) + 1) = ((m + 1 : Nat) : Int) := by rw [IntWalk.i64_in _ (by omega)]; omega
    have hp1 : IntKind.i64.wrap ((p : Int) + 1) = ((p + 1 : Nat) : Int) := by rw [IntWalk.i64_in _ (by omega)]; omega
    have hp2 : IntKind.i64.wrap ((p : Int) - 1) = (p : Int) - 1 := IntWalk.i64_in _ (by omega)
    obtain ⟨m1, hm1⟩ : ∃ m1, m1 = m + 1 := ⟨_, rfl⟩
    obtain ⟨p1, hp1e⟩ : ∃ p1, p1 = p + 1 := ⟨_, rfl⟩
    rw [← hm1] at hadd
    rw [← hp1e] at hp1
    have HM := Lib.hid hm1
    have HP1 := Lib.hid hp1e
    have HC := Lib.hid hc
    have HCE := Lib.hid hcells
    have HLT := Lib.hid hm
    clear hle hm hm1 hp1e hc hcells hpq hml hpl
    go_wp2_with (first | (refine wpList_load_cmd rfl (.tmp 11) rfl rfl HCE.out ?_) | (refine wpList_alloc_cmd rfl rfl ?_; intro Z hZ; have HZ := Lib.hid hZ; clear hZ) | (refine wpList_box_cmd rfl (.tmp 6) (.tmp 12) rfl rfl rfl HZ.out ?_))
    intro W hW hbW hsW
    obtain ⟨kN, _, _, _⟩ := box_cmd hW
    have HBW := Lib.hid (HJ.out.2.2.trans (hbW.mono HJ.out.2.2.size))
    obtain ⟨bx, hbx⟩ : ∃ bx, bx = wr.heap.size := ⟨_, rfl⟩
    rw [← hbx] at kN hsW ⊢
    clear hW hbW hbx
    have HNN := Lib.hid (cN_at HC.out)
    by_cases h1 : c.name = 123
    · have g1 : ((c.name : Int) == 123) = true := by rw [h1]; rfl
      have HN := Lib.hid (show m1 ≤ l.length ∧ dpF (cN l) m1 = (p1, max q p1) ∧ Below w.heap.size w W from ⟨by have := HM.out; have := HLT.out; omega, by rw [HM.out, dpF_open (by rw [HNN.out]; exact h1), HJ.out.2.1, HP1.out], HBW.out⟩)
      clear h1 hp2
      go_wp2_with fail
      go_roundw
      case rel => exact ⟨m1, p1, max q p1, rfl, rfl, by rw [show (max (q : Int) (p1 : Int)) = ((max q p1 : Nat) : Int) by omega], HN⟩
      case measure => have := HM.out; have := HLT.out; simp [intOf]; omega
    · by_cases h2 : c.name = 125
      · have g1 : ((c.name : Int) == 123) = false := by rw [beq_eq_false_iff_ne]; exact h1
        have g2 : ((c.name : Int) == 125) = true := by rw [h2]; rfl
        have HN := Lib.hid (show m1 ≤ l.length ∧ dpF (cN l) m1 = (p - 1, q) ∧ Below w.heap.size w W from ⟨by have := HM.out; have := HLT.out; omega, by rw [HM.out, dpF_shut (by rw [HNN.out]; exact h2), HJ.out.2.1], HBW.out⟩)
        clear h1 h2 hp1
        go_wp2_with fail
        go_roundw
        case rel => exact ⟨m1, p - 1, q, rfl, by rw [show max ((p : Int) - 1) 0 = ((p - 1 : Nat) : Int) by omega], rfl, HN⟩
        case measure => have := HM.out; have := HLT.out; simp [intOf]; omega
      · have g1 : ((c.name : Int) == 123) = false := by rw [beq_eq_false_iff_ne]; exact h1
        have g2 : ((c.name : Int) == 125) = false := by rw [beq_eq_false_iff_ne]; exact h2
        have HN := Lib.hid (show m1 ≤ l.length ∧ dpF (cN l) m1 = (p, q) ∧ Below w.heap.size w W from ⟨by have := HM.out; have := HLT.out; omega, by rw [HM.out, dpF_other (by rw [HNN.out]; exact h1) (by rw [HNN.out]; exact h2)]; exact HJ.out.2.1, HBW.out⟩)
        clear h1 h2 hp1 hp2
        go_wp2_with fail
        go_roundw
        case rel => exact ⟨m1, p, q, rfl, rfl, rfl, HN⟩
        case measure => have := HM.out; have := HLT.out; simp [intOf]; omega
end Go.Proofs.Ythlkmlphbepnpaa
