/-
  Plain texts: their tokens and trees. No condition.
-/
import Derived.Test.YtcbgbicdfpkikaaGreatDoorK06
import Derived.Lib.IndexMore
namespace Go.Proofs.YtcbgbicdfpkikaaGreatDoor
open Go.RowKit

/-- A letter or a figure. -/
def Plain (c : UInt8) : Prop := (97 ≤ c ∧ c ≤ 122) ∨ (65 ≤ c ∧ c ≤ 90) ∨ (48 ≤ c ∧ c ≤ 57)
theorem Plain.ne {c : UInt8} (h : Plain c) : c ≠ 46 ∧ c ≠ 91 ∧ c ≠ 92 ∧ c ≠ 94 ∧ c ≠ 36 ∧ c ≠ 40 ∧ c ≠ 41 ∧ c ≠ 124 ∧ c ≠ 42 ∧ c ≠ 43 ∧ c ≠ 63 ∧ c ≠ 123 := by
  unfold Plain at h
  simp only [UInt8.le_iff_toNat_le] at h
  refine ⟨?_, ?_, ?_, ?_, ?_, ?_, ?_, ?_, ?_, ?_, ?_, ?_⟩ <;> rintro rfl <;> revert h <;> decide
theorem first_plain (bk : BkF) (ext : Bool) (ah : Int) {c : UInt8} (r : List UInt8) (h : Plain c) : firstT bk ext ah (c :: r) = (oneT c.toNat, 1) := by
  obtain ⟨h1, h2, h3, h4, h5, h6, h7, h8, h9, h10, h11, h12⟩ := h.ne
  cases ext with
  | true => simp only [firstT, if_true, extT, h1, h2, h3, h4, h5, h6, h7, h8, h9, h10, h11, h12, if_false]
  | false => simp [firstT, basT, h1, h2, h3, h4, h5, h9]
theorem toks_plain (bk : BkF) (ext : Bool) : ∀ (k : Nat) (ah : Int) (l : List UInt8), (∀ c ∈ l, Plain c) → l.length ≤ k → toksF bk ext k ah l = some (l.map fun c => oneT c.toNat)
  | k, _, [], _, _ => by cases k <;> rfl
  | 0, _, _ :: _, _, h => by simp at h
  | k + 1, ah, c :: r, hp, hk => by
    have ih := toks_plain bk ext k 1 r (fun d hd => hp d (List.mem_cons_of_mem _ hd)) (by simpa using hk)
    simp only [toksF]
    rw [first_plain bk ext ah r (hp c (List.mem_cons_self ..))]
    simp only [oneT, List.drop_succ_cons, List.drop_zero, List.map_cons]
    rw [if_neg (by decide), ih]
    rfl
/-- One byte's node. -/
def oneN (c : UInt8) : PN := .mk 1 (withS noS c.toNat c.toNat) 0 0 0 []
theorem piece_plain (f : Nat) (c : UInt8) (r : List UInt8) (g : Nat) : pieceP (f + 1) ((c :: r).map fun c => oneT c.toNat) g = some (oneN c, r.map (fun c => oneT c.toNat), g) := by
  have h : repP (oneN c) (r.map fun c => oneT c.toNat) = (oneN c, r.map fun c => oneT c.toNat) := by
    cases r with
    | nil => rfl
    | cons d q => simp [repP, oneT]
  simp only [List.map_cons, pieceP, oneT]
  simp only [oneN, oneT] at h
  simp [h, oneN]
theorem rowP_next {f : Nat} {acc : List PN} {l : List Tok} {g : Nat} {n : PN} {l1 : List Tok} {g1 : Nat} (h : pieceP f l g = some (n, l1, g1)) : rowP (f + 1) acc l g = if headK l1 ≠ 0 ∧ headK l1 ≠ 6 ∧ headK l1 ≠ 5 then rowP f (acc ++ [n]) l1 g1 else some (joinK 2 (acc ++ [n]), l1, g1) := by
  simp only [rowP, h]
theorem altP_next {f : Nat} {acc : List PN} {l : List Tok} {g : Nat} {n : PN} {l1 : List Tok} {g1 : Nat} (h : rowP f [] l g = some (n, l1, g1)) : altP (f + 1) acc l g = if headK l1 = 6 then altP f (acc ++ [n]) (l1.drop 1) g1 else some (joinK 3 (acc ++ [n]), l1, g1) := by
  simp only [altP, h]
theorem row_plain : ∀ (f : Nat) (acc : List PN) (c : UInt8) (r : List UInt8) (g : Nat), r.length + 2 ≤ f → rowP f acc ((c :: r).map fun c => oneT c.toNat) g = some (joinK 2 (acc ++ (c :: r).map oneN), [], g)
  | 0, _, _, _, _, h => by omega
  | 1, _, _, _, _, h => by omega
  | f + 2, acc, c, r, g, h => by
    rw [rowP_next (f := f + 1) (piece_plain f c r g)]
    cases r with
    | nil => simp [headK]
    | cons d q =>
      have ih := row_plain (f + 1) (acc ++ [oneN c]) d q g (by simp only [List.length_cons] at h; omega)
      rw [if_pos (by simp [headK, oneT]), ih]
      simp
theorem parse_plain (bk : BkF) (ext : Bool) {l : List UInt8} (h : ∀ c ∈ l, Plain c) (h0 : l ≠ []) (hz : l.length ≤ 200) : parseP bk ext l = some (joinK 2 (l.map oneN)) := by
  unfold parseP
  rw [if_neg (by omega), toks_plain bk ext 200 4 l h hz]
  cases l with
  | nil => exact absurd rfl h0
  | cons c r =>
    have hr := row_plain 1000 [] c r 0 (by simp only [List.length_cons] at hz; omega)
    have ha : altP 1001 [] ((c :: r).map fun c => oneT c.toNat) 0 = some (joinK 2 ((c :: r).map oneN), [], 0) := by
      rw [altP_next (f := 1000) hr, if_neg (by simp [headK])]
      rfl
    simp only [ha, headK, if_true]
end Go.Proofs.YtcbgbicdfpkikaaGreatDoor
