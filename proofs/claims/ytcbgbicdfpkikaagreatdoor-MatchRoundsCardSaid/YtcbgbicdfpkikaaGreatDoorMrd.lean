/-
  MatchRounds, as data: rounds add up. No condition.
-/
import Derived.Test.YtcbgbicdfpkikaaGreatDoorMrun
namespace Go.Proofs.YtcbgbicdfpkikaaGreatDoor
open Go.RowKit

theorem find_same {T : List UInt8} {b : Bool} {t u : PN} {ok ok' : Bool} {sp sp' : Sp} (hs : ∀ i j, semT T b t i j = semT T b u i j) (gt : grpT t = false) (gu : grpT u = false) (hT : T.length ≤ 1024) (h : FindR T b t 0 ok sp) (h' : FindR T b u 0 ok' sp') : ok = ok' ∧ sp = sp' := by
  have hx : semT T b t = semT T b u := funext fun i => funext fun j => hs i j
  rcases FindR.span (fr := 0) h (Nat.zero_le _) hT with ⟨rfl, h1, h2⟩ | ⟨rfl, i, z, h1, _, h2, h3, h4, h5, h6, h7⟩
  · rcases FindR.span (fr := 0) h' (Nat.zero_le _) hT with ⟨rfl, k1, k2⟩ | ⟨rfl, i', z', k1, _, k2, k3, k4, k5, k6, k7⟩
    · exact ⟨rfl, h1.trans k1.symm⟩
    · exfalso
      rw [← hx, h2 i' z' (Nat.zero_le _) (by omega)] at k4
      cases k4
  · rcases FindR.span (fr := 0) h' (Nat.zero_le _) hT with ⟨rfl, k1, k2⟩ | ⟨rfl, i', z', k1, _, k2, k3, k4, k5, k6, k7⟩
    · exfalso
      rw [hx, k2 i z (Nat.zero_le _) (by omega)] at h4
      cases h4
    · have l1 : LL T.length 0 (semT T b t) i z := ⟨Nat.zero_le _, h2, h3, h4, h5, h6⟩
      have l2 : LL T.length 0 (semT T b t) i' z' := by
        rw [hx]
        exact ⟨Nat.zero_le _, k2, k3, k4, k5, k6⟩
      obtain ⟨rfl, rfl⟩ := l1.uniq l2
      refine ⟨rfl, ?_⟩
      rw [h7, k7]
      unfold spM
      rw [no_ev T b _ gt i z, no_ev T b _ gu i z]
theorem chain_plus {K : Rel} : ∀ {a b i j : Nat}, chainB K (a + b) i j = true ↔ ∃ k, i ≤ k ∧ k ≤ j ∧ chainB K a i k = true ∧ chainB K b k j = true
  | 0, b, i, j => by
    rw [Nat.zero_add]
    constructor
    · intro h
      have := chain_le h
      exact ⟨i, Nat.le_refl _, by omega, chain_zero.2 rfl, h⟩
    · rintro ⟨k, _, _, h1, h2⟩
      rw [chain_zero] at h1
      subst h1
      exact h2
  | a + 1, b, i, j => by
    rw [show a + 1 + b = (a + b) + 1 by omega, chain_succ]
    constructor
    · rintro ⟨k, h1, h2, h3, h4⟩
      obtain ⟨m, m1, m2, m3, m4⟩ := chain_plus.1 h4
      exact ⟨m, by omega, m2, chain_succ.2 ⟨k, h1, m1, h3, m3⟩, m4⟩
    · rintro ⟨m, m1, m2, m3, m4⟩
      obtain ⟨k, h1, h2, h3, h4⟩ := chain_succ.1 m3
      exact ⟨k, h1, by omega, h3, chain_plus.2 ⟨m, h2, m2, h4, m4⟩⟩
theorem rep_just {K : Rel} (h0 : ∀ i, K i i = false) {a i j : Nat} : repB K (a : Int) (a : Int) i j = true ↔ chainB K a i j = true := by
  rw [repB_iff]
  constructor
  · rintro ⟨r, h1, h2, h3⟩
    rcases h3 with h3 | h3
    · have : r = a := by omega
      rw [← this]; exact h1
    · rw [h0] at h3; cases h3
  · intro h
    exact ⟨a, h, .inr (by omega), .inl (by omega)⟩
/-- A byte's set, as the law makes it. -/
def bitS (c : Nat) : Nat → Nat := fun k => if k = c / 64 then 2 ^ (c % 64) else 0
theorem has_bit (c d : Nat) : has (bitS c) d = decide (d = c) := by
  unfold has bitS
  by_cases h : d / 64 = c / 64
  · rw [if_pos h, Nat.testBit_two_pow]
    by_cases e : d = c
    · subst e
      simp
    · rw [decide_eq_false (show ¬ c % 64 = d % 64 by omega), decide_eq_false e]
  · rw [if_neg h, Nat.zero_testBit, decide_eq_false (show ¬ d = c by intro e; subst e; exact h rfl)]
def bitN (c : Nat) : PN := .mk 1 (bitS c) 0 0 0 []
def roundT (l : List UInt8) : PN := .mk 2 noS 0 0 0 (l.map fun c => bitN c.toNat)
def justT (a : Nat) (l : List UInt8) : PN := .mk 4 noS (a : Int) (a : Int) 0 [roundT l]
def bothT (a b : Nat) (l : List UInt8) : PN := .mk 2 noS 0 0 0 [justT a l, justT b l]
theorem bit_grp (l : List UInt8) : grpT (roundT l) = false := by
  have h2 : grpL (l.map fun c => bitN c.toNat) = false := by
    induction l with
    | nil => simp [grpL]
    | cons c r ih => rw [List.map_cons, grpL, ih]; simp [bitN, grpT]
  unfold roundT
  rw [grpT]
  simp [h2]
theorem just_grp (a : Nat) (l : List UInt8) : grpT (justT a l) = false := by
  unfold justT
  rw [grpT]
  simp [grpH, bit_grp]
theorem both_grp (a b : Nat) (l : List UInt8) : grpT (bothT a b l) = false := by
  unfold bothT
  rw [grpT]
  simp [grpL, just_grp]
theorem bit_len {T : List UInt8} {b : Bool} {l : List UInt8} : ∀ {i j : Nat}, rowB (semL T b (l.map fun c => bitN c.toNat)) i j = true → j = i + l.length := by
  induction l with
  | nil =>
    intro i j h
    simp only [List.map_nil, semL] at h
    rw [rowB_nil] at h
    simp [h]
  | cons c r ih =>
    intro i j h
    simp only [List.map_cons, semL] at h
    obtain ⟨k, _, _, h3, h4⟩ := rowB_cons.1 h
    have e := ih h4
    have h5 : k = i + 1 := by
      unfold bitN at h3
      rw [semT] at h3
      simp only [semK, if_true, oneB, Bool.and_eq_true, beq_iff_eq] at h3
      exact h3.1
    simp only [List.length_cons]
    omega
theorem just_sem {T : List UInt8} {b : Bool} {l : List UInt8} (h0 : l ≠ []) {a i j : Nat} : semT T b (justT a l) i j = true ↔ chainB (semT T b (roundT l)) a i j = true := by
  have h : semT T b (justT a l) = repB (semT T b (roundT l)) (a : Int) (a : Int) := by
    unfold justT
    rw [semT]
    simp [semK, semL, headR]
  rw [h, rep_just fun i => ?_]
  cases e : semT T b (roundT l) i i with
  | false => rfl
  | true =>
    unfold roundT at e
    rw [semT] at e
    simp only [semK] at e
    rw [if_neg (by decide), if_pos trivial] at e
    have := bit_len e
    have : 0 < l.length := List.length_pos_iff.2 h0
    omega
theorem both_sem {T : List UInt8} {b : Bool} {l : List UInt8} (h0 : l ≠ []) {a c i j : Nat} : semT T b (bothT a c l) i j = semT T b (justT (a + c) l) i j := by
  rw [Bool.eq_iff_iff, just_sem h0, chain_plus]
  have h : semT T b (bothT a c l) = rowB [semT T b (justT a l), semT T b (justT c l)] := by
    unfold bothT
    rw [semT]
    simp [semK, semL]
  rw [h, rowB_cons]
  constructor
  · rintro ⟨k, h1, h2, h3, h4⟩
    obtain ⟨m, m1, m2, m3, m4⟩ := rowB_cons.1 h4
    rw [rowB_nil] at m4
    subst m4
    exact ⟨k, h1, m1, (just_sem h0).1 h3, (just_sem h0).1 m3⟩
  · rintro ⟨k, h1, h2, h3, h4⟩
    exact ⟨k, h1, h2, (just_sem h0).2 h3, rowB_cons.2 ⟨j, h2, Nat.le_refl _, (just_sem h0).2 h4, rowB_nil.2 rfl⟩⟩
theorem rounds_find {T l : List UInt8} {b : Bool} {a c : Nat} {ok ok' : Bool} {sp sp' : Sp} (h0 : l ≠ []) (hT : T.length ≤ 1024) (h : FindR T b (bothT a c l) 0 ok sp) (h' : FindR T b (justT (a + c) l) 0 ok' sp') : ok = ok' ∧ sp = sp' :=
  find_same (fun _ _ => both_sem h0) (both_grp a c l) (just_grp (a + c) l) hT h h'
theorem round_nods {l : List UInt8} (h : l.length ≤ 3) : nodT (roundT l) ≤ 4 := by
  have h2 : nodL (l.map fun c => bitN c.toNat) = l.length := by
    clear h
    induction l with
    | nil => simp [nodL]
    | cons c r ih => rw [List.map_cons, nodL, ih]; simp [bitN, nodT]; omega
  unfold roundT
  rw [nodT]
  simp [h2]
  omega
theorem just_nods {l : List UInt8} (h : l.length ≤ 3) (a : Nat) : nodT (justT a l) ≤ 5 := by
  have := round_nods h
  unfold justT
  rw [nodT]
  simp [nodH]
  omega
theorem both_nods {l : List UInt8} (h : l.length ≤ 3) (a c : Nat) : nodT (bothT a c l) ≤ 11 := by
  have h1 := just_nods h a
  have h2 := just_nods h c
  unfold bothT
  rw [nodT]
  simp [nodL]
  omega
end Go.Proofs.YtcbgbicdfpkikaaGreatDoor
