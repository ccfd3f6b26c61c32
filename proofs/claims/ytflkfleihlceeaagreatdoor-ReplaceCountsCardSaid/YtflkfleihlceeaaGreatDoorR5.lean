/-
 Package replace's iterators as they are made, and a pattern's matches as data. No condition.
-/
import Derived.Test.YtflkfleihlceeaaGreatDoorR4
namespace Go.Proofs.YtflkfleihlceeaaGreatDoor
open Go.RowKit Go.Deep
inductive MatL (T : List UInt8) (t : PN) : Int -> Int -> List Sp -> Prop
 | done {fr en : Int} {sp : Sp} : FindR T true t fr false sp -> MatL T t fr en []
 | hit {fr en : Int} {sp : Sp} {l : List Sp} : FindR T true t fr true sp -> en < (sp 0).2 -> MatL T t (max (sp 0).2 ((sp 0).1 + 1)) (sp 0).2 l -> MatL T t fr en (sp :: l)
 | skip {fr en : Int} {sp : Sp} {l : List Sp} : FindR T true t fr true sp -> ¬ en < (sp 0).2 -> MatL T t (max (sp 0).2 ((sp 0).1 + 1)) (sp 0).2 l -> MatL T t fr en l
theorem findR_det {T : List UInt8} {b : Bool} {t : PN} {fr : Int} {o1 o2 : Bool} {s1 s2 : Sp} (h1 : FindR T b t fr o1 s1) (h2 : FindR T b t fr o2 s2) : o1 = o2 /\ s1 = s2 := by
 rcases h1 with ⟨rfl, rfl, c1⟩ | ⟨rfl, a1, l1, i1, z1, f1, g1, m1, n1, k1, rfl⟩
 ·rcases h2 with ⟨rfl, rfl, _⟩ | ⟨rfl, a2, l2, i2, z2, f2, g2, m2, n2, k2, rfl⟩
  ·exact ⟨rfl, rfl⟩
  ·exfalso;have hi : i2 <= T.length := Nat.le_trans ((fit_T T b t) i2 z2 m2).1 g2;rcases c1 with h | h | h | h
   ·omega
   ·omega
   ·omega
   ·rw [h i2 z2 f2 hi] at m2;cases m2
 ·rcases h2 with ⟨rfl, rfl, c2⟩ | ⟨rfl, a2, l2, i2, z2, f2, g2, m2, n2, k2, rfl⟩
  ·exfalso;have hi : i1 <= T.length := Nat.le_trans ((fit_T T b t) i1 z1 m1).1 g1;rcases c2 with h | h | h | h
   ·omega
   ·omega
   ·omega
   ·rw [h i1 z1 f1 hi] at m1;cases m1
  ·have hi : i1 = i2 := by
    rcases Nat.lt_trichotomy i1 i2 with h | h | h
    ·rw [n2 i1 z1 f1 h] at m1;cases m1
    ·exact h
    ·rw [n1 i2 z2 f2 h] at m2;cases m2
   subst hi
   have hz : z1 = z2 := by
    rcases Nat.lt_trichotomy z1 z2 with h | h | h
    ·rw [k1 z2 h] at m2;cases m2
    ·exact h
    ·rw [k2 z1 h] at m1;cases m1
   subst hz;exact ⟨rfl, rfl⟩
theorem matL_det {T : List UInt8} {t : PN} {fr en : Int} {l1 : List Sp} (h1 : MatL T t fr en l1) : ∀ {l2 : List Sp}, MatL T t fr en l2 -> l1 = l2 := by
 induction h1 with
 | done f1 =>
  intro l2 h2;cases h2 with
  | done => rfl
  | hit f2 => have := (findR_det f1 f2).1; cases this
  | skip f2 => have := (findR_det f1 f2).1; cases this
 | hit f1 g1 _ ih =>
  intro l2 h2;cases h2 with
  | done f2 => have := (findR_det f1 f2).1; cases this
  | hit f2 g2 m2 =>
   have e := (findR_det f1 f2).2;subst e;rw [ih m2]
  | skip f2 g2 =>
   have e := (findR_det f1 f2).2;subst e;exact absurd g1 g2
 | skip f1 g1 _ ih =>
  intro l2 h2;cases h2 with
  | done f2 => have := (findR_det f1 f2).1; cases this
  | hit f2 g2 =>
   have e := (findR_det f1 f2).2;subst e;exact absurd g2 g1
  | skip f2 g2 m2 =>
   have e := (findR_det f1 f2).2;subst e;exact ih m2
theorem findR_in {T : List UInt8} {b : Bool} {t : PN} {fr : Int} {sp : Sp} (h : FindR T b t fr true sp) : ∃ i z : Nat, sp 0 = ((i : Int), (z : Int)) /\ fr <= (i : Int) /\ i <= z /\ z <= T.length /\ 0 <= fr := by
 rcases h with ⟨h, _⟩ | ⟨_, h0, _, i, z, h2, h3, h4, _, _, h7⟩
 ·cases h
 ·have hiz : i <= z := ((fit_T T b t) i z h4).1;exact ⟨i, z, by rw [h7]; exact spM_zero hiz, h2, hiz, h3, h0⟩
theorem matL_some (T : List UInt8) (t : PN) (hf : ∀ fr : Int, ∃ ok sp, FindR T true t fr ok sp) : ∀ (k : Nat) (fr en : Int), (T.length : Int) + 1 - fr <= (k : Int) -> ∃ l : List Sp, MatL T t fr en l /\ l.length <= k
 | 0, fr, en, hk => by
  obtain ⟨ok, sp, h⟩ := hf fr;cases ok with
  | false => exact ⟨[], .done h, by simp⟩
  | true =>
   obtain ⟨i, z, _, h1, h2, h3, _⟩ := findR_in h;omega
 | k + 1, fr, en, hk => by
  obtain ⟨ok, sp, h⟩ := hf fr;cases ok with
  | false => exact ⟨[], .done h, by simp⟩
  | true =>
   obtain ⟨i, z, h0, h1, h2, h3, _⟩ := findR_in h;obtain ⟨l, hl, hn⟩ := matL_some T t hf k (max (sp 0).2 ((sp 0).1 + 1)) (sp 0).2 (by rw [h0]; simp only; omega);by_cases he : en < (sp 0).2
   ·exact ⟨sp :: l, .hit h he hl, by simp; omega⟩
   ·exact ⟨l, .skip h he hl, by omega⟩
end Go.Proofs.YtflkfleihlceeaaGreatDoor
