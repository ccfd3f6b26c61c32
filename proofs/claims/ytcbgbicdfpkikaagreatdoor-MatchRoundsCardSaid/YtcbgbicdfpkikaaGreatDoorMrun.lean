/-
  MatchRun, as data: a byte's node, and runs of it. No condition.
-/
import Derived.Test.YtcbgbicdfpkikaaGreatDoorMei
namespace Go.Proofs.YtcbgbicdfpkikaaGreatDoor
open Go.RowKit

/-- A byte stands there. -/
def AtB (T : List UInt8) (c m : Nat) : Prop := ∃ x, T[m]? = some x ∧ x.toNat = c
theorem AtB.lt {T : List UInt8} {c m : Nat} (h : AtB T c m) : m < T.length := by
  obtain ⟨x, h, _⟩ := h
  exact (List.getElem?_eq_some_iff.1 h).1
theorem one_sem {T : List UInt8} {b : Bool} {c i j : Nat} : semT T b (litN c) i j = true ↔ j = i + 1 ∧ AtB T c i := by
  have h : semT T b (litN c) = oneB T (withS noS c c) := by
    unfold litN
    rw [semT]
    rfl
  rw [h]
  unfold oneB AtB
  cases hc : T[i]? with
  | none => simp
  | some x =>
    simp only [has_with, has_no, Bool.false_or, Bool.and_eq_true, beq_iff_eq, decide_eq_true_eq]
    constructor
    · rintro ⟨h1, h2, h3⟩
      exact ⟨h1, x, rfl, by omega⟩
    · rintro ⟨h1, y, h2, h3⟩
      cases h2
      exact ⟨h1, by omega, by omega⟩
def RunB (T : List UInt8) (c i j : Nat) : Prop := ∀ m, i ≤ m → m < j → AtB T c m
theorem chain_lit {T : List UInt8} {b : Bool} {c : Nat} : ∀ {r i j : Nat}, chainB (semT T b (litN c)) r i j = true ↔ j = i + r ∧ RunB T c i j
  | 0, i, j => by
    rw [chain_zero]
    constructor
    · rintro rfl
      exact ⟨rfl, fun m h1 h2 => by omega⟩
    · rintro ⟨h, _⟩
      omega
  | r + 1, i, j => by
    rw [chain_succ]
    constructor
    · rintro ⟨k, h1, h2, h3, h4⟩
      obtain ⟨rfl, h5⟩ := one_sem.1 h3
      obtain ⟨h6, h7⟩ := chain_lit.1 h4
      refine ⟨by omega, fun m m1 m2 => ?_⟩
      rcases Nat.eq_or_lt_of_le m1 with e | e
      · subst e; exact h5
      · exact h7 m e m2
    · rintro ⟨h1, h2⟩
      refine ⟨i + 1, by omega, by omega, one_sem.2 ⟨rfl, h2 i (Nat.le_refl _) (by omega)⟩, chain_lit.2 ⟨by omega, fun m m1 m2 => h2 m (by omega) m2⟩⟩
theorem rep_one {T : List UInt8} {b : Bool} {c i j : Nat} {lo : Int} : semT T b (repN lo (-1) (litN c)) i j = true ↔ ∃ r : Nat, j = i + r ∧ lo ≤ (r : Int) ∧ RunB T c i j := by
  have h : semT T b (repN lo (-1) (litN c)) = repB (semT T b (litN c)) lo (-1) := by
    unfold repN
    rw [semT]
    simp [semK, semL, headR]
  rw [h, repB_iff]
  constructor
  · rintro ⟨r, h1, _, h3⟩
    obtain ⟨h4, h5⟩ := chain_lit.1 h1
    refine ⟨r, h4, ?_, h5⟩
    rcases h3 with h3 | h3
    · exact h3
    · have := (one_sem.1 h3).1; omega
  · rintro ⟨r, h1, h2, h3⟩
    exact ⟨r, chain_lit.2 ⟨h1, h3⟩, .inl (by omega), .inl h2⟩
theorem run_star {T : List UInt8} {b : Bool} {c fr k : Nat} {ok : Bool} {sp : Sp} (h : LLR T.length fr (semT T b (repN 0 (-1) (litN c))) ok sp) (hf : fr ≤ k) (hk : k ≤ T.length) (hr : RunB T c fr k) (hs : k < T.length → ¬ AtB T c k) : ok = true ∧ sp 0 = ((fr : Int), (k : Int)) := by
  have hl : LL T.length fr (semT T b (repN 0 (-1) (litN c))) fr k := by
    refine ⟨Nat.le_refl _, hf, hk, rep_one.2 ⟨k - fr, by omega, by omega, hr⟩, fun i j h1 h2 => by omega, fun j hj => ?_⟩
    cases e : semT T b (repN 0 (-1) (litN c)) fr j with
    | false => rfl
    | true =>
      obtain ⟨r, _, _, h3⟩ := rep_one.1 e
      have h4 := h3 k hf hj
      exact absurd h4 (hs h4.lt)
  rcases h with ⟨_, _, h1⟩ | ⟨h1, i, z, h2, h3⟩
  · have := h1 fr k (Nat.le_refl _) (by omega)
    rw [hl.is] at this
    cases this
  · obtain ⟨rfl, rfl⟩ := hl.uniq h3
    exact ⟨h1, h2⟩
theorem run_plus {T : List UInt8} {b : Bool} {c fr i j : Nat} {ok : Bool} {sp : Sp} (h : LLR T.length fr (semT T b (repN 1 (-1) (litN c))) ok sp) (hf : fr ≤ i) (hi : i ≤ T.length) (hn : ∀ m, fr ≤ m → m < i → ¬ AtB T c m) (ha : i < T.length → AtB T c i) (hij : i ≤ j) (hj : j ≤ T.length) (hr : RunB T c i j) (hs : j < T.length → ¬ AtB T c j) : ok = decide (i < T.length) ∧ (ok = true → sp 0 = ((i : Int), (j : Int))) := by
  by_cases hlt : i < T.length
  · have hne : i < j := by
      rcases Nat.eq_or_lt_of_le hij with e | e
      · subst e; exact absurd (ha hlt) (hs hlt)
      · exact e
    have hl : LL T.length fr (semT T b (repN 1 (-1) (litN c))) i j := by
      refine ⟨hf, hij, hj, rep_one.2 ⟨j - i, by omega, by omega, hr⟩, fun k j' h1 h2 => ?_, fun j' hj' => ?_⟩
      · cases e : semT T b (repN 1 (-1) (litN c)) k j' with
        | false => rfl
        | true =>
          obtain ⟨r, h3, h4, h5⟩ := rep_one.1 e
          exact absurd (h5 k (Nat.le_refl _) (by omega)) (hn k h1 h2)
      · cases e : semT T b (repN 1 (-1) (litN c)) i j' with
        | false => rfl
        | true =>
          obtain ⟨r, _, _, h3⟩ := rep_one.1 e
          have h4 := h3 j hij hj'
          exact absurd h4 (hs h4.lt)
    rw [decide_eq_true hlt]
    rcases h with ⟨_, _, h1⟩ | ⟨h1, i', z, h2, h3⟩
    · have := h1 i j hf (by omega)
      rw [hl.is] at this
      cases this
    · obtain ⟨rfl, rfl⟩ := hl.uniq h3
      exact ⟨h1, fun _ => h2⟩
  · rw [decide_eq_false hlt]
    rcases h with ⟨h1, _, _⟩ | ⟨h1, i', z, _, h3⟩
    · exact ⟨h1, fun h => by rw [h1] at h; cases h⟩
    · exfalso
      obtain ⟨r, h4, h5, h6⟩ := rep_one.1 h3.is
      have h7 := h6 i' (Nat.le_refl _) (by omega)
      have h8 := h7.lt
      exact hn i' h3.fi (by omega) h7
set_option maxRecDepth 100000 in
theorem plus_parse (bk : BkF) : parseP bk true [97, 43] = some (repN 1 (-1) (litN 97)) := by kernel_rfl
set_option maxRecDepth 100000 in
theorem star_parse (bk : BkF) : parseP bk true [97, 42] = some (repN 0 (-1) (litN 97)) := by kernel_rfl
theorem byte_atB {s : ByteArray} {c m : Nat} : AtB s.data.toList c m ↔ ∃ h : m < s.size, s[m].toNat = c := by
  unfold AtB
  constructor
  · rintro ⟨x, h1, h2⟩
    obtain ⟨h3, h4⟩ := List.getElem?_eq_some_iff.1 h1
    refine ⟨by simpa using h3, ?_⟩
    rw [← h2, ← h4]
    rfl
  · rintro ⟨h, h2⟩
    refine ⟨s[m], ?_, h2⟩
    rw [List.getElem?_eq_getElem (by simpa using h)]
    rfl
end Go.Proofs.YtcbgbicdfpkikaaGreatDoor
