/-
  Goto loops whose first pass is one of the later ones; rows that lie in none of some blocks. No condition.
-/
import Derived.Test.YthlkmlphbepnpaaPg2
import Derived.Deep.WholeRow
namespace Go.Proofs.Ythlkmlphbepnpaa
open Go.RowKit Go.Deep

/-- 'wp_scope_jumps' whose first pass from the label is one of the later ones. -/
theorem wp_scope_again {P : Program} {a : Act} {w : World} {Q : Exit → Act → World → Prop} {c after : Code} (l : Nat) (J : Act → World → Prop) (μ : Act → World → Nat) (hf : findLabel c l = some (.seq .skip after))
    (first : (∀ a w, J a w → after.wp P (Exit.jump l J Q) a w) → c.wp P (Exit.jump l J Q) a w)
    (pass : ∀ a w, J a w → after.wp P (Exit.jump l (fun a' w' => J a' w' ∧ μ a' w' < μ a w) Q) a w) : (Code.scope c).wp P Q a w :=
  wp_scope_jumps l J μ hf (first fun a w h => Code.wp_mono (fun e a' w' he => by
    cases e with
    | goto k => exact ⟨he.1, he.2.1⟩
    | _ => exact he) (pass a w h)) (fun a w h => wp_seq (wp_skip (pass a w h)))

theorem bW (w : World) (o : Obj) : Below w.heap.size w (w.alloc o) := (Below.refl _ w).alloc (Nat.le_refl _) o
theorem raw_new (w : World) (vs : List Value) (T : TypeId) : RawAt (w.alloc (.cells vs.toArray T)) (some ⟨w.heap.size, 0, none⟩) vs := .inr ⟨_, 0, rfl, fun j v hv => by
  rw [Nat.zero_add, obj_cell (heap_alloc_new w _)]
  simpa using hv⟩
theorem actF {F : (Nat → Value) → Act} {a : Act} (h : a = F (fun i => a.tmps.getD i undef)) : ∃ u, a = F u := ⟨_, h⟩
/-- Cells as they lie, in none of some blocks. -/
def RawOff (S : Nat → Prop) (w : World) (A : Option Addr) (vs : List Value) : Prop := vs = [] ∨ ∃ g o, A = some ⟨g, o, none⟩ ∧ ¬ S g ∧ w.rangeAt g o vs
theorem RawOff.raw {S : Nat → Prop} {w : World} {A : Option Addr} {vs : List Value} (h : RawOff S w A vs) : RawAt w A vs := by
  rcases h with h | ⟨g, o, e, _, hr⟩
  · exact .inl h
  · exact .inr ⟨g, o, e, hr⟩
theorem RawOff.nil (S : Nat → Prop) (w : World) (A : Option Addr) : RawOff S w A [] := .inl rfl
theorem RawOff.turned {S : Nat → Prop} {w w' : World} {A : Option Addr} {vs : List Value} (h : RawOff S w A vs) (ht : Turned S w w') : RawOff S w' A vs := by
  rcases h with h | ⟨g, o, e, hn, hr⟩
  · exact .inl h
  · exact .inr ⟨g, o, e, hn, fun j v hv => ht.cell (hr j v hv) hn⟩
theorem RawOff.weaken {S T : Nat → Prop} {w : World} {A : Option Addr} {vs : List Value} (h : RawOff S w A vs) (hT : ∀ k, T k → S k) : RawOff T w A vs := by
  rcases h with h | ⟨g, o, e, hn, hr⟩
  · exact .inl h
  · exact .inr ⟨g, o, e, fun ht => hn (hT g ht), hr⟩
theorem RawOff.drop {S : Nat → Prop} {w : World} {A : Option Addr} {vs : List Value} (h : RawOff S w A vs) (k : Nat) : RawOff S w (A.map (·.add k)) (vs.drop k) := by
  rcases h with h | ⟨g, o, e, hn, hr⟩
  · exact .inl (by rw [h, List.drop_nil])
  · refine .inr ⟨g, o + k, by rw [e, Option.map_some, Addr.add_mid], hn, fun j v hv => ?_⟩
    rw [List.getElem?_drop] at hv
    rw [Nat.add_assoc]
    exact hr (k + j) v hv
theorem RawOff.cell {S : Nat → Prop} {w : World} {A : Option Addr} {vs : List Value} (h : RawOff S w A vs) {i : Nat} {v : Value} (hv : vs[i]? = some v) : ∃ g o, A = some ⟨g, o, none⟩ ∧ w.cell? ⟨g, o + i, none⟩ = some v := h.raw.cell hv
theorem off_elem {α : Type} {f : α → List Value} {m : Nat} (hf : ∀ x, (f x).length = m) (hm : 0 < m) {S : Nat → Prop} {w : World} {A : Option Addr} {l : List α} (h : RawOff S w A (l.flatMap f)) {i : Nat} {x : α} (hx : l[i]? = some x) : ∃ g o, A = some ⟨g, o, none⟩ ∧ ¬ S g ∧ w.rangeAt g (o + i * m) (f x) := by
  rcases h with h | ⟨g, o, e, hn, hr⟩
  · have h2 := flat_len hf l
    rw [h] at h2
    have h3 := (List.getElem?_eq_some_iff.1 hx).1
    have h4 : 0 < l.length * m := Nat.mul_pos (by omega) hm
    simp only [List.length_nil] at h2
    omega
  · refine ⟨g, o, e, hn, fun j v hv => ?_⟩
    rw [Nat.add_assoc]
    exact hr _ v (flat_get hf l i x hx j v hv)
end Go.Proofs.Ythlkmlphbepnpaa
