/-
  The first place at which no blank stands. Condition: a text of less than 2^47 bytes.
-/
import Derived.Test.YtncbmdbfdjhkeaaTkone
import Derived.LoopIn
import Derived.Deep.Cut
namespace Go.Proofs.Ytncbmdbfdjhkeaa
open Go.RowKit

theorem tk_wp_scope_again {P : Program} {a : Act} {w : World} {Q : Exit → Act → World → Prop} {c after : Code} (l : Nat) (J : Act → World → Prop) (μ : Act → World → Nat) (hf : findLabel c l = some (.seq .skip after))
    (first : (∀ a w, J a w → after.wp P (Exit.jump l J Q) a w) → c.wp P (Exit.jump l J Q) a w)
    (pass : ∀ a w, J a w → after.wp P (Exit.jump l (fun a' w' => J a' w' ∧ μ a' w' < μ a w) Q) a w) : (Code.scope c).wp P Q a w :=
  wp_scope_jumps l J μ hf (first fun a w h => Code.wp_mono (fun e a' w' he => by
    cases e with
    | goto k => exact ⟨he.1, he.2.1⟩
    | _ => exact he) (pass a w h)) (fun a w h => wp_seq (wp_skip (pass a w h)))
def intOf : Value → Int
  | .int _ n => n
  | _ => 0
theorem bl_of (c : UInt8) : ([32, 9] : List UInt8).contains c = isBl c := by
  unfold isBl
  simp [List.contains, List.elem]
  cases h : c == 32 <;> cases h' : c == 9 <;> simp_all
theorem oneF_yes {s l : List UInt8} {j : Int} (h : oneF s l j = true) : 0 ≤ j ∧ j < (l.length : Int) ∧ ∃ c, l[j.toNat]? = some c ∧ s.contains c = true := by
  unfold oneF at h
  split at h
  case isTrue h0 =>
    cases e : l[j.toNat]? with
    | none => rw [e] at h; cases h
    | some c =>
      rw [e] at h
      have hlt := (List.getElem?_eq_some_iff.1 e).1
      exact ⟨h0, by omega, c, rfl, h⟩
  case isFalse => cases h
theorem blanks_go {l : List UInt8} {j : Int} (h : oneF [32, 9] l j = true) : blanksF l (j + 1) = blanksF l j := by
  obtain ⟨h0, h1, c, hc, hb⟩ := oneF_yes h
  rw [bl_of] at hb
  unfold blanksF
  rw [if_pos h0, if_pos (by omega), drop_at hc, blk_yes hb, show (j + 1).toNat = j.toNat + 1 by omega]
  omega
theorem blanks_stop {l : List UInt8} {j : Int} (h : oneF [32, 9] l j = false) : blanksF l j = j := by
  unfold blanksF
  split
  case isTrue h0 =>
    unfold oneF at h
    rw [if_pos h0] at h
    cases e : l[j.toNat]? with
    | none =>
      rw [drop_end (by simpa using e), blk_nil]
      omega
    | some c =>
      rw [e] at h
      rw [drop_at e, blk_no (by rw [← bl_of]; exact h)]
      omega
  case isFalse => rfl

set_option maxRecDepth 100000 in
theorem blanks_is (t : ByteArray) (hz : t.size ≤ 140737488355328) (i : Int) (w : World) : Calls Try.prog 22 #[.string t, .int .i64 i] w fun e w' => e = .returned (.int .i64 (blanksF t.data.toList i)) ∧ w' = w := by
  have HO := Lib.hid fun (j : Int) (W : World) => tk_one_of ⟨#[32, 9]⟩ t j W
  have HZ := Lib.hid hz
  clear hz
  go_enter Try.func22, Try.ntmps22
  go_wp2_with fail
  refine tk_wp_scope_again 0 (fun a' w' => w = w' ∧ ∃ (j : Int) (u5 u6 u7 u8 u9 u10 : Value), Hid (blanksF t.data.toList j = blanksF t.data.toList i) ∧ a' = { tmps := #[.string t, .int .i64 j, undef, undef, .int .i64 0, u5, u6, u7, u8, u9, u10], defers := [] }) (fun a' _ => t.size - (intOf (a'.tmps.getD 1 undef)).toNat) rfl ?_ ?_
  · intro hp
    have HP := Lib.hid hp
    clear hp
    go_wp2_with fail
    go_step3
    simp only [Exit.then]
    rename_i hK
    exact hK _ _ (HP.out _ _ ⟨rfl, i, _, _, _, _, _, _, Lib.hid rfl, rfl⟩)
  · rintro a' w' ⟨rfl, j, u5, u6, u7, u8, u9, u10, HJ, rfl⟩
    cases ho : oneF [32, 9] t.data.toList j with
    | true =>
      have HJ2 := Lib.hid ((blanks_go ho).trans HJ.out)
      obtain ⟨h0, h1, _⟩ := oneF_yes ho
      have h1' : j < (t.size : Int) := by rw [tk_size_of rfl]; exact h1
      have HW := Lib.hid (show wrap64 (j + 1) = j + 1 from IntWalk.wrap64_in _ (by have := HZ.out; omega))
      have HMM := Lib.hid (show t.size - (j + 1).toNat < t.size - j.toNat by omega)
      have hoj := HO.out j
      simp only [ho] at hoj
      have HOJ := Lib.hid hoj
      clear hoj
      clear ho h0 h1 h1'
      go_wp2_with fail
      go_at_call 38
      refine (HOJ.out _).mono ?_
      rintro e w1 ⟨rfl, rfl⟩
      go_wp2_with fail
      go_step3
      rw [HW.out]
      exact ⟨rfl, ⟨rfl, _, _, _, _, _, _, _, HJ2, rfl⟩, by simpa [intOf] using HMM.out⟩
    | false =>
      have HE := Lib.hid ((blanks_stop ho).symm.trans HJ.out)
      have hoj := HO.out j
      simp only [ho] at hoj
      have HOJ := Lib.hid hoj
      clear hoj
      clear ho
      go_wp2_with fail
      go_at_call 38
      refine (HOJ.out _).mono ?_
      rintro e w1 ⟨rfl, rfl⟩
      go_wp2_with fail
      simp only [Exit.jump]
      go_ret
      exact ⟨by rw [← HE.out]; rfl, rfl⟩
end Go.Proofs.Ytncbmdbfdjhkeaa
