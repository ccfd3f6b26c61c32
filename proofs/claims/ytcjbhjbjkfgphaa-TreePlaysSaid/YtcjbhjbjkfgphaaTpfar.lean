/-
  A tree in memory stays while a block turns that is none of its own: of another type, without strings, and whose pointers lead to no node. No condition.
-/
import Derived.Test.YtcjbhjbjkfgphaaTmoff
namespace Go.Proofs.Ytcjbhjbjkfgphaa
open Go.RowKit Go.Deep

/-- A block that is none of a tree's. -/
def Alien (w : World) (b : Nat) : Prop := ∃ cs tb fr, w.heap[b]? = some (.cells cs tb fr) ∧ tb ≠ 77 ∧ tb ≠ 81 ∧ tb ≠ 110 ∧
  ∀ (j : Nat) (v : Value), cs[j]? = some v → (∀ s, v ≠ .string s) ∧ ∀ k cs' fr', v = .pointer (some ⟨k, 0, none⟩) → w.heap[k]? ≠ some (.cells cs' 77 fr')
theorem Alien.obj {b : Nat} {w w' : World} (ha : Alien w b) (h : OffB b w w') {k : Nat} {cs : Array Value} {T : TypeId} {fr : Nat × Nat} (hk : w.heap[k]? = some (.cells cs T fr)) (hT : T = 77 ∨ T = 81 ∨ T = 110) : w'.heap[k]? = some (.cells cs T fr) := by
  refine (h.block k fun e => ?_).trans hk
  subst e
  obtain ⟨cs', tb, fr', h1, h2, h3, h4, _⟩ := ha
  rw [h1] at hk
  injection hk with hk
  injection hk with _ e2
  rcases hT with hT | hT | hT
  · exact h2 (e2.trans hT)
  · exact h3 (e2.trans hT)
  · exact h4 (e2.trans hT)
theorem raw_off {b : Nat} {w w' : World} (h : OffB b w w') {A : Option Addr} {vs : List Value} (hr : RawAt w A vs) (h0 : ∀ v, vs[0]? = some v → ∀ o, w.cell? ⟨b, o, none⟩ ≠ some v) : RawAt w' A vs := by
  rcases hr with hr | ⟨g, o, e, hr⟩
  · exact .inl hr
  · by_cases hn : vs = []
    · exact .inl hn
    refine .inr ⟨g, o, e, fun j v hv => ?_⟩
    have hg : g ≠ b := by
      intro hgb
      subst hgb
      cases vs with
      | nil => exact hn rfl
      | cons a r => exact h0 a rfl _ (hr 0 a rfl)
    rw [World.cell?_of_block (h.block g hg)]
    exact hr j v hv
theorem Alien.no_string {b : Nat} {w : World} (ha : Alien w b) (o : Nat) (s : ByteArray) : w.cell? ⟨b, o, none⟩ ≠ some (.string s) := by
  intro hc
  obtain ⟨cs, tb, fr, h1, _, _, _, h5⟩ := ha
  rw [obj_cell h1] at hc
  exact (h5 o _ hc).1 s rfl
theorem Alien.no_node {b : Nat} {w : World} (ha : Alien w b) {k : Nat} {cs : Array Value} {fr : Nat × Nat} (hk : w.heap[k]? = some (.cells cs 77 fr)) (o : Nat) : w.cell? ⟨b, o, none⟩ ≠ some (.pointer (some ⟨k, 0, none⟩)) := by
  intro hc
  obtain ⟨cs', tb, fr', h1, _, _, _, h5⟩ := ha
  rw [obj_cell h1] at hc
  exact (h5 o _ hc).2 k cs fr rfl hk
theorem Alien.node {b : Nat} {w w' : World} (ha : Alien w b) (h : OffB b w w') {k : Nat} {fs : List FX} {ad : List Nat} (hn : NodeAt w k fs ad) (hk : ∀ a, ad[0]? = some a → ∃ cs fr, w.heap[a]? = some (.cells cs 77 fr)) : NodeAt w' k fs ad := by
  obtain ⟨A1, c1, A2, c2, h1, h2, h3, h4, h5⟩ := hn
  refine ⟨A1, c1, A2, c2, ha.obj h h1 (.inl rfl), h2, h3, raw_off h h4 ?_, raw_off h h5 ?_⟩
  · intro v hv o
    cases fs with
    | nil => simp [xsV] at hv
    | cons x r =>
      simp only [xsV, List.flatMap_cons, FX.cells, List.cons_append, List.getElem?_cons_zero, Option.some.injEq] at hv
      rw [← hv]
      exact ha.no_string o _
  · intro v hv o
    cases ad with
    | nil => simp [ksV] at hv
    | cons x r =>
      simp only [ksV, List.map_cons, List.getElem?_cons_zero, Option.some.injEq] at hv
      obtain ⟨cs, fr, hx⟩ := hk x rfl
      rw [← hv]
      exact ha.no_node hx o
theorem IsN.typed {w : World} : ∀ {n : Nat} {t : NT n} {k : Nat}, IsN w n t k → ∃ cs fr, w.heap[k]? = some (.cells cs 77 fr)
  | 0, _, _, ⟨_, _, _, _, h, _⟩ => ⟨_, _, h⟩
  | _ + 1, (_, _), _, ⟨_, ⟨_, _, _, _, h, _⟩, _⟩ => ⟨_, _, h⟩
theorem Alien.isN {b : Nat} {w w' : World} (ha : Alien w b) (h : OffB b w w') : ∀ {n : Nat} {t : NT n} {k : Nat}, IsN w n t k → IsN w' n t k
  | 0, _, _, hn => ha.node h hn (fun a e => by simp at e)
  | n + 1, (fs, ks), k, ⟨ad, h1, h2, h3⟩ => by
    refine ⟨ad, ha.node h h1 (fun a e => ?_), h2, fun i k a hk hA => Alien.isN ha h (h3 i k a hk hA)⟩
    have hl := (List.getElem?_eq_some_iff.1 e).1
    obtain ⟨kk, hkk⟩ : ∃ kk, (ks : List (NT n))[0]? = some kk := ⟨_, List.getElem?_eq_getElem (by rw [← h2]; exact hl)⟩
    exact (h3 0 kk a hkk e).typed
theorem Alien.isRT {b : Nat} {w w' : World} (ha : Alien w b) (h : OffB b w w') : ∀ {k : Nat} {t : RT}, IsRT w k t → IsRT w' k t
  | _, .part _, hr => ha.obj h hr (.inr (.inr rfl))
  | _, .node _ _, ⟨x, y, h0, h1, h2⟩ => ⟨x, y, ha.obj h h0 (.inr (.inr rfl)), Alien.isRT ha h h1, Alien.isRT ha h h2⟩
theorem Alien.rope {b : Nat} {w w' : World} (ha : Alien w b) (h : OffB b w w') {p : Option Addr} {l : List UInt8} (hr : RopeIs w p l) : RopeIs w' p l := by
  obtain ⟨h1, h2 | ⟨k, t, e, h3, h4, h5⟩⟩ := hr
  · exact ⟨h1, .inl h2⟩
  · exact ⟨h1, .inr ⟨k, t, e, ha.isRT h h3, h4, h5⟩⟩
theorem TreeIs.alien {b : Nat} {w w' : World} {p : Option Addr} {fs : List FileM} (hT : TreeIs w p fs) (ha : Alien w b) (h : OffB b w w') : TreeIs w' p fs := by
  obtain ⟨xs, r, h1, h2, h3, h4⟩ := hT
  refine ⟨xs, r, h1, ⟨h2.rise, h2.right, h2.few, fun x hx => ?_, h2.vers⟩, ?_, ?_⟩
  · obtain ⟨l, q1, q2⟩ := h2.ropes x hx
    exact ⟨l, ha.rope h q1, q2⟩
  · rcases h3 with h3 | ⟨n, t, k, e, q1, q2, q3⟩
    · exact .inl h3
    · exact .inr ⟨n, t, k, e, ha.isN h q1, q2, q3⟩
  · rcases h4 with h4 | ⟨k, e, h5⟩
    · exact .inl h4
    · exact .inr ⟨k, e, ha.obj h h5 (.inr (.inl rfl))⟩
/-- A tree's box is no node. -/
theorem TreeIs.box {w : World} {k : Nat} {fs : List FileM} (hT : TreeIs w (some ⟨k, 0, none⟩) fs) (cs : Array Value) (fr : Nat × Nat) : w.heap[k]? ≠ some (.cells cs 77 fr) := by
  obtain ⟨xs, r, _, _, _, ⟨h4, _⟩ | ⟨b, e, h5⟩⟩ := hT
  · cases h4
  · injection e with e
    injection e with e
    subst e
    rw [h5]
    intro h
    injection h with h
    injection h with _ h
    exact absurd h (by decide)
end Go.Proofs.Ytcjbhjbjkfgphaa
