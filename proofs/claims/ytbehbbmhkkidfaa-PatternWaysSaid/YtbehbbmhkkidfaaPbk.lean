/-
  class.Bracket's answers, told by a function of the text. No condition.
-/
import Derived.Test.YtbehbbmhkkidfaaPparse
import Derived.Test.YtbehbbmhkkidfaaMbrk
import Derived.Test.YtbehbbmhkkidfaaCbrk
namespace Go.Proofs.Ytbehbbmhkkidfaa
open Go.RowKit Go.Deep

theorem Brk.end_le {M : World → Prop} {s : ByteArray} {n : Nat} {S : Nat → Nat} {r : Option ((Nat → Nat) × Nat)} (h : Brk M s n S r) : ∀ T m, r = some (T, m) → m + 1 ≤ s.size := by
  induction h with
  | bad _ _ _ => intro T m h; cases h
  | last _ _ _ hk hp =>
    intro T m h
    cases h
    have := pre_size hp
    simp only [ByteArray.size_extract] at this
    have h1 : (ByteArray.mk #[93]).size = 1 := rfl
    omega
  | more _ _ _ _ _ _ ih => exact ih
def bkOn (nt : Bool) (r : Option ((Nat → Nat) × Nat)) : Option ((Nat → Nat) × Nat) := r.map fun p => (if nt = true then notS (withS p.1 10 10) else p.1, p.2 + 1)
theorem bkV_on (nt : Bool) (r : Option ((Nat → Nat) × Nat)) : brkV nt r = bkV (bkOn nt r) := by
  cases r with
  | none => rfl
  | some p => rfl
def BkOk (s : ByteArray) (o : Option ((Nat → Nat) × Nat)) : Prop := (∀ W : World, MaxAt W → Calls Try.prog 38 #[.string s] W fun e w' => e = .returned (bkV o) ∧ Below W.heap.size W w') ∧ ∀ S n, o = some (S, n) → 1 ≤ n ∧ n ≤ s.size
theorem brk_ex (s : ByteArray) (hz : s.size ≤ 4096) : ∃ o : Option ((Nat → Nat) × Nat), BkOk s o := by
  have key : ∀ nt : Bool, pre ⟨#[94]⟩ s = nt → (if nt = true then 1 else 0) ≤ s.size → ∃ o : Option ((Nat → Nat) × Nat), (∀ W : World, MaxAt W → Calls Try.prog 38 #[.string s] W fun e w' => e = .returned (bkV o) ∧ Below W.heap.size W w') ∧ ∀ S n, o = some (S, n) → 1 ≤ n ∧ n ≤ s.size := by
    intro nt hnt hle
    obtain ⟨r, hr⟩ := brkP_ex s s.size (if nt = true then 1 else 0) noS hle (by omega)
    have hb := hr.toBrk (by omega : s.size ≤ 2147483648)
    refine ⟨bkOn nt r, fun W hM => ?_, fun S n h => ?_⟩
    · rw [← bkV_on]
      exact bracket_is MaxAt (fun _ _ h hb => h.below hb) s nt hnt r hb (by omega) W hM
    · obtain ⟨p, hp, he⟩ := Option.map_eq_some_iff.1 h
      have := hb.end_le p.1 p.2 (by rw [hp])
      cases he
      omega
  cases hp : pre ⟨#[94]⟩ s with
  | false => exact key false hp (Nat.zero_le _)
  | true => exact key true hp (by have := pre_size hp; exact this)
open Classical in
noncomputable def bkOf : BkF := fun l => if h : (txt l).size ≤ 4096 then Classical.choose (brk_ex (txt l) h) else none
theorem bkOf_ok (l : List UInt8) (hz : (txt l).size ≤ 4096) : BkOk (txt l) (bkOf l) := by
  have h := Classical.choose_spec (brk_ex (txt l) hz)
  unfold bkOf
  rw [dif_pos hz]
  exact h
theorem bkOf_is : BkIs bkOf := by
  refine ⟨fun s W hs hM => ?_, fun l S n hl h => ?_⟩
  · have h := bkOf_ok s.data.toList (by rw [txt_of]; exact hs)
    rw [txt_of] at h
    exact h.1 W hM
  · have h2 := (bkOf_ok l (by rw [size_txt]; exact hl)).2 S n h
    rw [size_txt] at h2
    exact h2
theorem parse_of (s : ByteArray) (ext : Bool) (w : World) (hM : MaxAt w) : Calls Try.prog 8 #[.string s, .bool ext] w (ParseAns (parseP bkOf ext s.data.toList) w) := parse_is bkOf_is s ext w hM
end Go.Proofs.Ytbehbbmhkkidfaa
