/-
  MatchPlain, as data: a text of letters finds itself. No condition.
-/
import Derived.Test.YtcbgbicdfpkikaaGreatDoorMrun
import Derived.Test.YtcbgbicdfpkikaaGreatDoorPtx
namespace Go.Proofs.YtcbgbicdfpkikaaGreatDoor
open Go.RowKit

theorem oneN_lit (c : UInt8) : oneN c = litN c.toNat := rfl
/-- A text stands there. -/
def Stands (T l : List UInt8) (i : Nat) : Prop := ∀ m, m < l.length → T[i + m]? = l[m]?
theorem at_byte {T : List UInt8} {c : UInt8} {i : Nat} : AtB T c.toNat i ↔ T[i]? = some c := by
  unfold AtB
  constructor
  · rintro ⟨x, h1, h2⟩
    rw [h1, UInt8.toNat_inj.1 h2]
  · intro h
    exact ⟨c, h, rfl⟩
theorem stands_cons {T r : List UInt8} {c : UInt8} {i : Nat} : Stands T (c :: r) i ↔ T[i]? = some c ∧ Stands T r (i + 1) := by
  constructor
  · intro h
    refine ⟨h 0 (by simp), fun m hm => ?_⟩
    have := h (m + 1) (by simpa using hm)
    rw [show i + 1 + m = i + (m + 1) by omega, this]
    rfl
  · rintro ⟨h1, h2⟩ m hm
    cases m with
    | zero => exact h1
    | succ m =>
      have := h2 m (by simpa using hm)
      rw [show i + (m + 1) = i + 1 + m by omega, this]
      rfl
theorem Stands.fit {T l : List UInt8} {i : Nat} (h : Stands T l i) (h0 : l ≠ []) : i + l.length ≤ T.length := by
  have hl : 0 < l.length := List.length_pos_iff.2 h0
  have h1 := h (l.length - 1) (by omega)
  rw [List.getElem?_eq_getElem (show l.length - 1 < l.length by omega)] at h1
  have := (List.getElem?_eq_some_iff.1 h1).1
  omega
theorem stands_iff {T l : List UInt8} {i : Nat} (_h : i + l.length ≤ T.length) : (T.take (i + l.length)).drop i = l ↔ Stands T l i := by
  constructor
  · intro e m hm
    have h2 : ((T.take (i + l.length)).drop i)[m]? = l[m]? := by rw [e]
    rw [List.getElem?_drop, List.getElem?_take, if_pos (by omega)] at h2
    exact h2
  · intro hs
    refine List.ext_getElem? fun m => ?_
    rw [List.getElem?_drop, List.getElem?_take]
    by_cases hm : m < l.length
    · rw [if_pos (by omega), hs m hm]
    · rw [if_neg (by omega), List.getElem?_eq_none (by omega)]
theorem row_sem {T : List UInt8} {b : Bool} : ∀ {l : List UInt8} {i j : Nat}, rowB (l.map fun c => semT T b (litN c.toNat)) i j = true ↔ j = i + l.length ∧ Stands T l i
  | [], i, j => by
    rw [List.map_nil, rowB_nil]
    constructor
    · rintro rfl
      exact ⟨rfl, fun m h => by simp at h⟩
    · rintro ⟨h, _⟩
      exact h.symm
  | c :: r, i, j => by
    rw [List.map_cons, rowB_cons, stands_cons]
    constructor
    · rintro ⟨k, h1, h2, h3, h4⟩
      obtain ⟨rfl, h5⟩ := one_sem.1 h3
      obtain ⟨h6, h7⟩ := row_sem.1 h4
      exact ⟨by simp only [List.length_cons]; omega, at_byte.1 h5, h7⟩
    · rintro ⟨h1, h2, h3⟩
      simp only [List.length_cons] at h1
      exact ⟨i + 1, by omega, by omega, one_sem.2 ⟨rfl, at_byte.2 h2⟩, row_sem.2 ⟨by omega, h3⟩⟩
theorem plain_sem {T : List UInt8} {b : Bool} {l : List UInt8} {i j : Nat} (h0 : l ≠ []) : semT T b (joinK 2 (l.map oneN)) i j = true ↔ j = i + l.length ∧ Stands T l i := by
  match l, h0 with
  | [c], _ =>
    show semT T b (oneN c) i j = true ↔ _
    rw [oneN_lit, one_sem, at_byte, stands_cons]
    constructor
    · rintro ⟨h1, h2⟩
      exact ⟨h1, h2, fun m h => by simp at h⟩
    · rintro ⟨h1, h2, _⟩
      exact ⟨h1, h2⟩
  | c :: d :: r, _ =>
    have h : semT T b (joinK 2 ((c :: d :: r).map oneN)) = rowB ((c :: d :: r).map fun c => semT T b (litN c.toNat)) := by
      simp only [List.map_cons, joinK]
      rw [semT, semL_eq]
      simp [semK, oneN_lit, Function.comp_def]
    rw [h, row_sem]
theorem plain_grp (l : List UInt8) : grpT (joinK 2 (l.map oneN)) = false := by
  have h1 : ∀ c : UInt8, grpT (oneN c) = false := fun c => by simp [oneN, grpT]
  have h2 : ∀ r : List UInt8, grpL (r.map oneN) = false := fun r => by
    induction r with
    | nil => simp [grpL]
    | cons c r ih => rw [List.map_cons, grpL, h1, ih]; rfl
  match l with
  | [] => simp [joinK, grpT, grpL]
  | [c] => exact h1 c
  | c :: d :: r =>
    have := h2 (c :: d :: r)
    simp only [List.map_cons] at this ⊢
    simp only [joinK]
    rw [grpT]
    simp [this]
theorem plain_find {T l : List UInt8} {ok : Bool} {sp : Sp} (h0 : l ≠ []) (hT : T.length ≤ 1024) (h : FindR T false (joinK 2 (l.map oneN)) 0 ok sp) : (∀ a, Stands T l a → (∀ i, i < a → ¬ Stands T l i) → ok = true ∧ sp 0 = ((a : Int), ((a + l.length : Nat) : Int)) ∧ sp 1 = (-1, -1)) ∧ ((∀ i, ¬ Stands T l i) → ok = false) := by
  rcases FindR.span (fr := 0) h (Nat.zero_le _) hT with ⟨rfl, _, h1⟩ | ⟨rfl, i, z, h1, _, h2, h3, h4, h5, _, h6⟩
  · refine ⟨fun a ha _ => ?_, fun _ => rfl⟩
    have hf := ha.fit h0
    have := h1 a (a + l.length) (Nat.zero_le _) (by omega)
    rw [(plain_sem h0).2 ⟨rfl, ha⟩] at this
    cases this
  · obtain ⟨hz, hs⟩ := (plain_sem h0).1 h4
    refine ⟨fun a ha hn => ?_, fun h => absurd hs (h i)⟩
    have e : i = a := by
      rcases Nat.lt_trichotomy i a with e | e | e
      · exact absurd hs (hn i e)
      · exact e
      · have := h5 a (a + l.length) (Nat.zero_le _) e
        rw [(plain_sem h0).2 ⟨rfl, ha⟩] at this
        cases this
    subst e
    refine ⟨rfl, by rw [h1, hz], ?_⟩
    rw [h6]
    unfold spM
    rw [no_ev T false _ (plain_grp l) i z]
    rfl

end Go.Proofs.YtcbgbicdfpkikaaGreatDoor
