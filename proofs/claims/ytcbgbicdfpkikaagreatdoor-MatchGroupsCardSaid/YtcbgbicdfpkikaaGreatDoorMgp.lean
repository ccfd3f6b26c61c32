/-
  MatchGroups, as data: a parsed tree's groups have the numbers from 1 on. No condition.
-/
import Derived.Test.YtcbgbicdfpkikaaGreatDoorK28
import Derived.Test.YtcbgbicdfpkikaaGreatDoorPrt
namespace Go.Proofs.YtcbgbicdfpkikaaGreatDoor
open Go.RowKit

/-- The groups' numbers are such. -/
def EvP (P : Nat → Prop) (f : EvF) : Prop := ∀ i j, ∀ e ∈ f i j, P e.1
theorem EvP.mono {P Q : Nat → Prop} {f : EvF} (h : EvP P f) (hq : ∀ k, P k → Q k) : EvP Q f := fun i j e he => hq _ (h i j e he)
theorem EvP.row {P : Nat → Prop} {rs : List Rel} : ∀ {es : List EvF}, (∀ e ∈ es, EvP P e) → EvP P (rowE rs es) := by
  induction rs with
  | nil => intro es _ i j e he; cases es <;> simp [rowE] at he
  | cons r rs ih =>
    intro es h i j e he
    cases es with
    | nil => simp [rowE] at he
    | cons f es =>
      simp only [rowE] at he
      rcases List.mem_append.1 he with he | he
      · exact h f (List.mem_cons_self ..) _ _ e he
      · exact ih (fun f hf => h f (List.mem_cons_of_mem _ hf)) _ _ e he
theorem EvP.alt {P : Nat → Prop} {rs : List Rel} : ∀ {es : List EvF}, (∀ e ∈ es, EvP P e) → EvP P (altE rs es) := by
  induction rs with
  | nil => intro es _ i j e he; cases es <;> simp [altE] at he
  | cons r rs ih =>
    intro es h i j e he
    cases es with
    | nil => simp [altE] at he
    | cons f es =>
      simp only [altE] at he
      split at he
      · exact h f (List.mem_cons_self ..) i j e he
      · exact ih (fun f hf => h f (List.mem_cons_of_mem _ hf)) i j e he
theorem EvP.rep {P : Nat → Prop} {K : Rel} {f : EvF} (h : EvP P f) : ∀ (n : Nat) (lo hi : Int), EvP P (repE K f n lo hi)
  | 0, lo, hi => fun i j e he => by
    rw [repE] at he
    split at he
    · exact h i i e he
    · cases he
  | n + 1, lo, hi => fun i j e he => by
    rw [repE] at he
    split at he
    · split at he
      · exact h i i e he
      · cases he
    · rcases List.mem_append.1 he with he | he
      · exact h _ _ e he
      · exact EvP.rep h n _ _ _ _ e he
theorem EvP.head {P : Nat → Prop} {es : List EvF} (h : ∀ e ∈ es, EvP P e) : EvP P (headE es) := by
  cases es with
  | nil => intro i j e he; cases he
  | cons f es => exact h f (List.mem_cons_self ..)
theorem EvP.node {P : Nat → Prop} {k lo hi num : Int} {rs : List Rel} {es : List EvF} (h : ∀ e ∈ es, EvP P e) (hn : k = 5 → P num.toNat) : EvP P (evK k lo hi num rs es) := fun i j e he => by
  unfold evK at he
  split at he
  · exact EvP.row h i j e he
  split at he
  · exact EvP.alt h i j e he
  split at he
  · exact EvP.rep (EvP.head h) _ _ _ i j e he
  split at he
  · rename_i h5
    rcases List.mem_append.1 he with he | he
    · split at he
      · have : e = (num.toNat, i, j) := by simpa using he
        subst this
        exact hn h5
      · cases he
    · exact EvP.head h i j e he
  · cases he
/-- How many groups a tree has. -/
def grpK (k : Int) : Nat := if k = 5 then 1 else 0
mutual
def grpC : PN → Nat
  | .mk k _ _ _ _ ks => grpK k + grpCL ks
def grpCL : List PN → Nat
  | [] => 0
  | t :: ts => grpC t + grpCL ts
end
mutual
theorem right_num (T : List UInt8) (b : Bool) : ∀ (t : PN) (g g' : Nat), Right t g g' → g' = g + grpC t ∧ EvP (fun k => g < k ∧ k ≤ g') (evT T b t)
  | .mk k S lo hi num ks, g, g', h => by
    rw [grpC, evT]
    cases h with
    | leaf _ _ _ _ _ _ hk =>
      refine ⟨?_, EvP.node (fun e he => by simp [evL] at he) (fun h5 => by omega)⟩
      unfold grpK
      rw [if_neg (by omega), grpCL]
      rfl
    | many _ _ _ _ _ _ _ _ hk _ _ hl =>
      obtain ⟨h1, h2⟩ := right_numL T b ks g g' hl
      refine ⟨?_, EvP.node h2 (fun h5 => by omega)⟩
      unfold grpK
      rw [if_neg (by omega)]
      omega
    | group _ _ _ n _ _ hl =>
      obtain ⟨h1, h2⟩ := right_numL T b [n] (g + 1) g' hl
      refine ⟨?_, EvP.node (fun e he => (h2 e he).mono fun k hk => ⟨by omega, hk.2⟩) (fun _ => ⟨by omega, by omega⟩)⟩
      unfold grpK
      rw [if_pos rfl]
      omega
    | rep _ _ _ _ n _ _ _ _ _ _ _ hl =>
      obtain ⟨h1, h2⟩ := right_numL T b [n] g g' hl
      refine ⟨?_, EvP.node h2 (fun h5 => by omega)⟩
      unfold grpK
      rw [if_neg (by omega)]
      omega
theorem right_numL (T : List UInt8) (b : Bool) : ∀ (ts : List PN) (g g' : Nat), RightL ts g g' → g' = g + grpCL ts ∧ ∀ e ∈ evL T b ts, EvP (fun k => g < k ∧ k ≤ g') e
  | [], g, g', h => by
    cases h
    rw [grpCL]
    exact ⟨rfl, fun e he => by simp [evL] at he⟩
  | t :: ts, g, g', h => by
    cases h with
    | cons h1 h2 =>
      obtain ⟨a1, a2⟩ := right_num T b t _ _ h1
      obtain ⟨b1, b2⟩ := right_numL T b ts _ _ h2
      rw [grpCL, evL]
      refine ⟨by omega, fun e he => ?_⟩
      rw [List.mem_cons] at he
      rcases he with rfl | he
      · exact a2.mono fun k hk => ⟨hk.1, by omega⟩
      · exact (b2 e he).mono fun k hk => ⟨by omega, hk.2⟩
end
theorem right_grp {k : Int} {S : Nat → Nat} {lo hi num : Int} {ks : List PN} {g g' : Nat} (h : Right (.mk k S lo hi num ks) g g') (h5 : k = 5) : num = ((g + 1 : Nat) : Int) ∧ g + 1 ≤ g' ∧ ∀ (T : List UInt8) (b : Bool), ∀ e ∈ evL T b ks, EvP (fun k => g + 1 < k) e := by
  subst h5
  cases h with
  | leaf _ _ _ _ _ _ hk => omega
  | many _ _ _ _ _ _ _ _ hk _ _ hl => omega
  | group _ _ _ n _ _ hl =>
    have h1 := fun T b => right_numL T b [n] (g + 1) g' hl
    exact ⟨rfl, by have := (h1 [] false).1; omega, fun T b e he => ((h1 T b).2 e he).mono fun k hk => hk.1⟩
/-- What a group holds. -/
def SpOk (sp : Sp) (k : Nat) : Prop := sp k = (-1, -1) ∨ ∃ a c : Nat, sp k = ((a : Int), (c : Int)) ∧ (sp 0).1 ≤ (a : Int) ∧ a ≤ c ∧ (c : Int) ≤ (sp 0).2
theorem spI_ten {k : Nat} (h : k < 10) : spI 10 k = (-1, -1) := by
  unfold spI
  rw [if_pos h]
theorem groups_find {bk : BkF} {ext : Bool} {l T : List UInt8} {b : Bool} {t : PN} {sp : Sp} (hp : parseP bk ext l = some t) (hT : T.length ≤ 1024) (h : FindR T b t 0 true sp) : (∀ k, 1 ≤ k → k ≤ 9 → SpOk sp k) ∧ (∀ k, 1 ≤ k → k ≤ 9 → grpC t < k → sp k = (-1, -1)) ∧ (t.kind = 5 → sp 1 = sp 0) ∧ grpC t ≤ 9 := by
  obtain ⟨_, _, g, hg, hr⟩ := right_of hp
  obtain ⟨hgc, hev⟩ := right_num T b t 0 g hr
  rcases FindR.span (fr := 0) h (Nat.zero_le _) hT with ⟨h0, _⟩ | ⟨_, i, z, h1, _, h2, h3, h4, h5, _, h6⟩
  · cases h0
  have hin := ev_in T b t i z h2
  have hb : ∀ k, 1 ≤ k → k ≤ 9 → putS (spI 10) 0 (i : Int) (z : Int) k = (-1, -1) := fun k k1 k9 => by
    unfold putS
    rw [if_neg (by omega), spI_ten (by omega)]
  refine ⟨fun k k1 k9 => ?_, fun k k1 k9 hk => ?_, fun h5 => ?_, by omega⟩
  · unfold SpOk
    rw [h1]
    rw [h6]
    unfold spM
    rcases putE_in (sp := putS (spI 10) 0 (i : Int) (z : Int)) (k := k) hin with e | ⟨a, c, e, e1, e2, e3⟩
    · left
      rw [e, hb k k1 k9]
    · right
      exact ⟨a, c, e, by simp only; omega, e2, by simp only; omega⟩
  · rw [h6]
    unfold spM
    rw [putE_other fun e he e0 => by have := (hev i z e he).2; omega, hb k k1 k9]
  · obtain ⟨k, S, lo, hi, num, ks⟩ := t
    change k = 5 at h5
    obtain ⟨e1, e2, e3⟩ := right_grp hr h5
    rw [h1, h6]
    subst h5
    unfold spM
    rw [evT]
    have hnum : 1 ≤ num ∧ num ≤ 9 := by omega
    have hev5 : evK 5 lo hi num (semL T b ks) (evL T b ks) i z = (num.toNat, i, z) :: headE (evL T b ks) i z := by
      unfold evK
      simp [hnum]
    rw [hev5]
    show putE (setE (putS (spI 10) 0 (i : Int) (z : Int)) (num.toNat, i, z)) (headE (evL T b ks) i z) 1 = _
    rw [putE_other fun e he e0 => by have := EvP.head (e3 T b) i z e he; omega]
    unfold setE
    rw [if_pos (by show 1 = num.toNat; omega)]
end Go.Proofs.YtcbgbicdfpkikaaGreatDoor
