/-
  A tree in memory stays while a table of numbers turns: its blocks are of other types, its rows hold no numbers alone. No condition.
-/
import Derived.Test.YtcjbhjbjkfgphaaNtree
import Derived.Test.YtcjbhjbjkfgphaaTmany
namespace Go.Proofs.Ytcjbhjbjkfgphaa
open Go.RowKit Go.Deep

theorem OffB.obj {b : Nat} {w w' : World} (h : OffB b w w') (ht : IntTab w b) {k : Nat} {cs : Array Value} {T : TypeId} {fr : Nat × Nat} (hk : w.heap[k]? = some (.cells cs T fr)) (hT : T ≠ 60) : w'.heap[k]? = some (.cells cs T fr) := by
  refine (h.block k fun e => ?_).trans hk
  subst e
  obtain ⟨cs', h1, _⟩ := ht
  rw [h1] at hk
  injection hk with hk
  injection hk with _ h2
  exact hT h2.symm
theorem OffB.raw {b : Nat} {w w' : World} (h : OffB b w w') (ht : IntTab w b) {A : Option Addr} {vs : List Value} (hr : RawAt w A vs) (h0 : ∀ v, vs[0]? = some v → ∀ n, v ≠ .int .i64 n) : RawAt w' A vs := by
  rcases hr with hr | ⟨g, o, e, hr⟩
  · exact .inl hr
  · by_cases hn : vs = []
    · exact .inl hn
    refine .inr ⟨g, o, e, fun j v hv => ?_⟩
    have hg : g ≠ b := by
      intro hgb
      subst hgb
      obtain ⟨v0, hv0⟩ : ∃ v0, vs[0]? = some v0 := by
        cases vs with
        | nil => exact absurd rfl hn
        | cons a r => exact ⟨a, rfl⟩
      have hc := hr 0 v0 hv0
      obtain ⟨cs, h1, h2⟩ := ht
      rw [obj_cell h1] at hc
      obtain ⟨n, hn2⟩ := h2 _ _ hc
      exact h0 v0 hv0 n hn2
    rw [World.cell?_of_block (h.block g hg)]
    exact hr j v hv
theorem OffB.node {b : Nat} {w w' : World} (h : OffB b w w') (ht : IntTab w b) {k : Nat} {fs : List FX} {ad : List Nat} (hn : NodeAt w k fs ad) : NodeAt w' k fs ad := by
  obtain ⟨A1, c1, A2, c2, h1, h2, h3, h4, h5⟩ := hn
  refine ⟨A1, c1, A2, c2, h.obj ht h1 (by decide), h2, h3, h.raw ht h4 ?_, h.raw ht h5 ?_⟩
  · intro v hv n e
    subst e
    cases fs with
    | nil => simp [xsV] at hv
    | cons x r => simp [xsV, FX.cells] at hv
  · intro v hv n e
    subst e
    cases ad with
    | nil => simp [ksV] at hv
    | cons x r =>
      simp only [ksV, List.map_cons, List.getElem?_cons_zero, Option.some.injEq] at hv
      cases hv
theorem OffB.isN {b : Nat} {w w' : World} (h : OffB b w w') (ht : IntTab w b) : ∀ {n : Nat} {t : NT n} {k : Nat}, IsN w n t k → IsN w' n t k
  | 0, _, _, hn => h.node ht hn
  | _ + 1, (_, _), _, ⟨ad, h1, h2, h3⟩ => ⟨ad, h.node ht h1, h2, fun i k a hk ha => OffB.isN h ht (h3 i k a hk ha)⟩
theorem OffB.isRT {b : Nat} {w w' : World} (h : OffB b w w') (ht : IntTab w b) : ∀ {k : Nat} {t : RT}, IsRT w k t → IsRT w' k t
  | _, .part _, hr => h.obj ht hr (by decide)
  | _, .node _ _, ⟨x, y, h0, h1, h2⟩ => ⟨x, y, h.obj ht h0 (by decide), OffB.isRT h ht h1, OffB.isRT h ht h2⟩
theorem OffB.rope {b : Nat} {w w' : World} (h : OffB b w w') (ht : IntTab w b) {p : Option Addr} {l : List UInt8} (hr : RopeIs w p l) : RopeIs w' p l := by
  obtain ⟨h1, h2 | ⟨k, t, e, h3, h4, h5⟩⟩ := hr
  · exact ⟨h1, .inl h2⟩
  · exact ⟨h1, .inr ⟨k, t, e, h.isRT ht h3, h4, h5⟩⟩
theorem TreeIs.off {b : Nat} {w w' : World} {p : Option Addr} {fs : List FileM} (hT : TreeIs w p fs) (ht : IntTab w b) (h : OffB b w w') : TreeIs w' p fs := by
  obtain ⟨xs, r, h1, h2, h3, h4⟩ := hT
  refine ⟨xs, r, h1, ⟨h2.rise, h2.right, h2.few, fun x hx => ?_, h2.vers⟩, ?_, ?_⟩
  · obtain ⟨l, q1, q2⟩ := h2.ropes x hx
    exact ⟨l, h.rope ht q1, q2⟩
  · rcases h3 with h3 | ⟨n, t, k, e, q1, q2, q3⟩
    · exact .inl h3
    · exact .inr ⟨n, t, k, e, h.isN ht q1, q2, q3⟩
  · rcases h4 with h4 | ⟨k, e, h5⟩
    · exact .inl h4
    · exact .inr ⟨k, e, h.obj ht h5 (by decide)⟩
end Go.Proofs.Ytcjbhjbjkfgphaa
