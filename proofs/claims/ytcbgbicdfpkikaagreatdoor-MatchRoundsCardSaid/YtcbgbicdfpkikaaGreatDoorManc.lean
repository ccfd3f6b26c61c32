/-
  MatchAnchored. Conditions: the world holds what strings.Index asks, and the table of de Bruijn's numbers.
-/
import Derived.Test.YtcbgbicdfpkikaaGreatDoorK28
namespace Go.Proofs.YtcbgbicdfpkikaaGreatDoor
open Go.RowKit Go.Deep Go.Sort

def anchT (t : PN) : PN := .mk 2 noS 0 0 0 [.mk 6 noS 0 0 0 [], t, .mk 7 noS 0 0 0 []]
theorem anch_sem {T : List UInt8} {b : Bool} {t : PN} {i j : Nat} : semT T b (anchT t) i j = true ↔ i = 0 ∧ j = T.length ∧ b = true ∧ semT T b t 0 T.length = true := by
  have h6 : ∀ a c, semT T b (.mk 6 noS 0 0 0 []) a c = (a == 0 && c == 0 && b) := fun a c => by rw [semT]; rfl
  have h7 : ∀ a c, semT T b (.mk 7 noS 0 0 0 []) a c = (a == T.length && c == T.length) := fun a c => by rw [semT]; rfl
  have hr : semT T b (anchT t) = rowB [semT T b (.mk 6 noS 0 0 0 []), semT T b t, semT T b (.mk 7 noS 0 0 0 [])] := by
    unfold anchT
    rw [semT]
    simp [semK, semL]
  rw [hr, rowB_cons]
  constructor
  · rintro ⟨e, h1, h2, h3, h4⟩
    rw [h6] at h3
    obtain ⟨e2, h5, h6', h7', h8⟩ := rowB_cons.1 h4
    obtain ⟨e3, h9, h10, h11, h12⟩ := rowB_cons.1 h8
    rw [h7] at h11
    rw [rowB_nil] at h12
    simp only [Bool.and_eq_true, beq_iff_eq] at h3 h11
    obtain ⟨⟨rfl, rfl⟩, rfl⟩ := h3
    obtain ⟨rfl, rfl⟩ := h11
    exact ⟨rfl, h12.symm, rfl, h7'⟩
  · rintro ⟨rfl, rfl, rfl, h⟩
    refine ⟨0, Nat.le_refl _, Nat.zero_le _, by rw [h6]; rfl, rowB_cons.2 ⟨T.length, Nat.zero_le _, Nat.le_refl _, h, rowB_cons.2 ⟨T.length, Nat.le_refl _, Nat.le_refl _, by rw [h7]; simp, rowB_nil.2 rfl⟩⟩⟩
theorem anch_find {T : List UInt8} {b : Bool} {t : PN} {ok : Bool} {sp : Sp} (hT : T.length ≤ 1024) (h : FindR T b (anchT t) 0 ok sp) : ok = (semT T b t 0 T.length && b) ∧ (ok = true → sp 0 = (0, (T.length : Int))) := by
  rcases FindR.span (fr := 0) h (Nat.zero_le _) hT with ⟨rfl, _, h1⟩ | ⟨rfl, i, z, h1, _, _, _, h5, _⟩
  · refine ⟨?_, fun h => by cases h⟩
    cases hs : semT T b t 0 T.length with
    | false => rfl
    | true =>
      cases b with
      | false => rfl
      | true =>
        have h2 := anch_sem.2 ⟨rfl, rfl, rfl, hs⟩
        rw [h1 0 T.length (Nat.le_refl _) (Nat.zero_le _)] at h2
        cases h2
  · obtain ⟨rfl, rfl, rfl, hs⟩ := anch_sem.1 h5
    exact ⟨by rw [hs]; rfl, fun _ => h1⟩
theorem raw_of_obj {w : World} {g : Nat} {cs : Array Value} {T : TypeId} {xs : List NV} (ho : w.heap[g]? = some (.cells cs T (0, 0))) (hcs : cs.toList = nsV xs) : RawOff (fun _ => False) w (some ⟨g, 0, none⟩) (nsV xs) := by
  refine .inr ⟨g, 0, rfl, fun h => h, fun j v hv => ?_⟩
  rw [Nat.zero_add, obj_cell ho, ← Array.getElem?_toList, hcs]
  exact hv
theorem anch_is {w : World} {g : Nat} {t : PN} {y : NV} {cs : Array Value} {T : TypeId} (hy : IsP (fun _ => False) w t y) (ho : w.heap[g]? = some (.cells cs T (0, 0))) (hcs : cs.toList = nsV [⟨6, noS, 0, 0, 0, none, 0, 0⟩, y, ⟨7, noS, 0, 0, 0, none, 0, 0⟩]) : IsP (fun _ => False) w (anchT t) ⟨2, noS, 0, 0, 0, some ⟨g, 0, none⟩, 3, 3⟩ := by
  refine .mk [⟨6, noS, 0, 0, 0, none, 0, 0⟩, y, ⟨7, noS, 0, 0, 0, none, 0, 0⟩] rfl (Nat.le_refl 3) (raw_of_obj ho hcs) fun i t' x h1 h2 => ?_
  match i, h1, h2 with
  | 0, h1, h2 =>
    simp at h1 h2
    subst h1 h2
    exact IsP.leaf _ _ _ _ _ _ _
  | 1, h1, h2 =>
    simp at h1 h2
    subst h1 h2
    exact hy
  | 2, h1, h2 =>
    simp at h1 h2
    subst h1 h2
    exact IsP.leaf _ _ _ _ _ _ _
  | n + 3, h1, h2 => simp at h1
theorem anch_nods {t : PN} (h : nodT t ≤ 802) : nodT (anchT t) ≤ 100000 := by
  unfold anchT
  simp [nodT, nodL]
  omega
end Go.Proofs.YtcbgbicdfpkikaaGreatDoor
