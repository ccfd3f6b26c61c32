/-
  MatchEither, as data. No condition.
-/
import Derived.Test.YtcbgbicdfpkikaaGreatDoorManc
namespace Go.Proofs.YtcbgbicdfpkikaaGreatDoor
open Go.RowKit

/-- The leftmost longest. -/
structure LL (N fr : Nat) (r : Rel) (i z : Nat) : Prop where
  fi : fr ≤ i
  iz : i ≤ z
  zN : z ≤ N
  is : r i z = true
  lm : ∀ k j : Nat, fr ≤ k → k < i → r k j = false
  lg : ∀ j : Nat, z < j → r i j = false
theorem LL.uniq {N fr : Nat} {r : Rel} {i z i' z' : Nat} (h : LL N fr r i z) (h' : LL N fr r i' z') : i = i' ∧ z = z' := by
  have e : i = i' := by
    rcases Nat.lt_trichotomy i i' with e | e | e
    · have := h'.lm i z h.fi e; rw [h.is] at this; cases this
    · exact e
    · have := h.lm i' z' h'.fi e; rw [h'.is] at this; cases this
  subst e
  refine ⟨rfl, ?_⟩
  rcases Nat.lt_trichotomy z z' with e | e | e
  · have := h.lg z' e; rw [h'.is] at this; cases this
  · exact e
  · have := h'.lg z e; rw [h.is] at this; cases this
/-- What a search answers, without its groups. -/
def LLR (N fr : Nat) (r : Rel) (ok : Bool) (sp : Sp) : Prop := (ok = false ∧ sp = spI 0 ∧ ∀ i j : Nat, fr ≤ i → i ≤ N → r i j = false) ∨ (ok = true ∧ ∃ i z : Nat, sp 0 = ((i : Int), (z : Int)) ∧ LL N fr r i z)
theorem FindR.ll {T : List UInt8} {b : Bool} {t : PN} {fr : Nat} {ok : Bool} {sp : Sp} (h : FindR T b t (fr : Int) ok sp) (hfr : fr ≤ T.length) (hT : T.length ≤ 1024) : LLR T.length fr (semT T b t) ok sp := by
  rcases h.span hfr hT with h | ⟨h, i, z, h1, h2, h3, h4, h5, h6, h7, _⟩
  · exact .inl h
  · exact .inr ⟨h, i, z, h1, h2, h3, h4, h5, h6, h7⟩
def altPN (t u : PN) : PN := .mk 3 noS 0 0 0 [t, u]
theorem alt_sem {T : List UInt8} {b : Bool} {t u : PN} {i j : Nat} : semT T b (altPN t u) i j = (semT T b t i j || semT T b u i j) := by
  unfold altPN
  rw [semT]
  simp [semK, semL]
/-- Whether the second is the better one. -/
def better (x y : Int × Int) : Bool := decide (y.1 < x.1) || (decide (y.1 = x.1) && decide (x.2 < y.2))
theorem ei_find {N : Nat} {ra rb rc : Rel} {is has ok : Bool} {x y z : Sp} (hc : ∀ i j, rc i j = (ra i j || rb i j)) (hx : LLR N 0 ra is x) (hy : LLR N 0 rb has y) (hz : LLR N 0 rc ok z) :
    ok = (is || has) ∧ (ok = true → z 0 = if (!is || (has && better (x 0) (y 0))) = true then y 0 else x 0) := by
  have none : ∀ {i j : Nat}, i ≤ N → (ra i j = true ∨ rb i j = true) → ok = true := fun {i j} hi h => by
    rcases hz with ⟨_, _, h0⟩ | ⟨h0, _⟩
    · have := h0 i j (Nat.zero_le _) hi
      rw [hc] at this
      rcases h with h | h <;> rw [h] at this <;> simp at this
    · exact h0
  have fin : ∀ {i e : Nat}, LL N 0 rc i e → ok = true → z 0 = ((i : Int), (e : Int)) := fun {i e} h h1 => by
    rcases hz with ⟨h0, _⟩ | ⟨_, i', e', h2, h3⟩
    · rw [h1] at h0; cases h0
    · obtain ⟨rfl, rfl⟩ := h.uniq h3
      exact h2
  rcases hx with ⟨rfl, rfl, hxn⟩ | ⟨rfl, i, e, hx1, hx2⟩
  · rcases hy with ⟨rfl, rfl, hyn⟩ | ⟨rfl, i', e', hy1, hy2⟩
    · rcases hz with ⟨rfl, _, _⟩ | ⟨_, i, e, _, h3⟩
      · exact ⟨rfl, fun h => by cases h⟩
      · exfalso
        have h4 := h3.is
        have h5 := h3.iz
        have h6 := h3.zN
        rw [hc, hxn i e (Nat.zero_le _) (by omega), hyn i e (Nat.zero_le _) (by omega)] at h4
        cases h4
    · have hi' : i' ≤ N := Nat.le_trans hy2.iz hy2.zN
      have hok := none hi' (.inr hy2.is)
      refine ⟨hok, fun _ => ?_⟩
      rw [if_pos (by simp), hy1]
      refine fin ⟨Nat.zero_le _, hy2.iz, hy2.zN, by rw [hc, hy2.is, Bool.or_true], fun k j hk hki => ?_, fun j hj => ?_⟩ hok
      · rw [hc, hxn k j hk (by omega), hy2.lm k j hk hki]; rfl
      · rw [hc, hxn i' j (Nat.zero_le _) hi', hy2.lg j hj]; rfl
  · have hi : i ≤ N := Nat.le_trans hx2.iz hx2.zN
    have hok := none hi (.inl hx2.is)
    rcases hy with ⟨rfl, rfl, hyn⟩ | ⟨rfl, i', e', hy1, hy2⟩
    · refine ⟨hok, fun _ => ?_⟩
      rw [if_neg (by simp), hx1]
      refine fin ⟨Nat.zero_le _, hx2.iz, hx2.zN, by rw [hc, hx2.is]; rfl, fun k j hk hki => ?_, fun j hj => ?_⟩ hok
      · rw [hc, hyn k j hk (by omega), hx2.lm k j hk hki]; rfl
      · rw [hc, hyn i j (Nat.zero_le _) hi, hx2.lg j hj]; rfl
    · have hi' : i' ≤ N := Nat.le_trans hy2.iz hy2.zN
      refine ⟨hok, fun _ => ?_⟩
      have hb : better (x 0) (y 0) = true ↔ i' < i ∨ (i' = i ∧ e < e') := by
        unfold better
        rw [hx1, hy1]
        simp only [Bool.or_eq_true, Bool.and_eq_true, decide_eq_true_eq]
        omega
      by_cases hbt : better (x 0) (y 0) = true
      · rw [if_pos (by rw [hbt]; rfl), hy1]
        have h1 := hb.1 hbt
        refine fin ⟨Nat.zero_le _, hy2.iz, hy2.zN, by rw [hc, hy2.is, Bool.or_true], fun k j hk hki => ?_, fun j hj => ?_⟩ hok
        · rw [hc, hx2.lm k j hk (by omega), hy2.lm k j hk hki]; rfl
        · rw [hc, hy2.lg j hj, Bool.or_false]
          rcases h1 with h1 | ⟨h1, h2⟩
          · exact hx2.lm i' j (Nat.zero_le _) h1
          · rw [h1]; exact hx2.lg j (by omega)
      · rw [if_neg (by simp [hbt]), hx1]
        have h1 : ¬ (i' < i ∨ (i' = i ∧ e < e')) := fun h => hbt (hb.2 h)
        refine fin ⟨Nat.zero_le _, hx2.iz, hx2.zN, by rw [hc, hx2.is]; rfl, fun k j hk hki => ?_, fun j hj => ?_⟩ hok
        · rw [hc, hx2.lm k j hk hki, hy2.lm k j hk (by omega)]; rfl
        · rw [hc, hx2.lg j hj, Bool.false_or]
          by_cases e1 : i' = i
          · rw [← e1]; exact hy2.lg j (by omega)
          · exact hy2.lm i j (Nat.zero_le _) (by omega)
theorem alt_is {w : World} {g : Nat} {t u : PN} {x y : NV} {cs : Array Value} {T : TypeId} (hx : IsP (fun _ => False) w t x) (hy : IsP (fun _ => False) w u y) (ho : w.heap[g]? = some (.cells cs T (0, 0))) (hcs : cs.toList = nsV [x, y]) : IsP (fun _ => False) w (altPN t u) ⟨3, noS, 0, 0, 0, some ⟨g, 0, none⟩, 2, 2⟩ := by
  refine .mk [x, y] rfl (Nat.le_refl 2) (raw_of_obj ho hcs) fun i t' x' h1 h2 => ?_
  match i, h1, h2 with
  | 0, h1, h2 =>
    simp at h1 h2
    subst h1 h2
    exact hx
  | 1, h1, h2 =>
    simp at h1 h2
    subst h1 h2
    exact hy
  | n + 2, h1, h2 => simp at h1
theorem alt_nods {t u : PN} (h : nodT t ≤ 802) (k : nodT u ≤ 802) : nodT (altPN t u) ≤ 100000 := by
  unfold altPN
  simp [nodT, nodL]
  omega
end Go.Proofs.YtcbgbicdfpkikaaGreatDoor
