/-
  Lists of bytes in memory: a row of slices that the call owns, and what is appended to it; whether two such lists are one. Condition: those named at each fact.
-/
import Derived.Test.YthdenpdhckichaaAlive
namespace Go.Proofs.Ythdenpdhckichaa
open Go.RowKit Go.Deep

/-- Bytes in memory, none of them in block k. -/
def BytesAway (w : World) (A : Option Addr) (l : List UInt8) (k : Option Nat) : Prop := ∀ i b, l[i]? = some b → ∃ g o, A = some ⟨g, o, none⟩ ∧ some g ≠ k ∧ w.cell? ⟨g, o + i, none⟩ = some (byteV b)
theorem BytesAway.at {w : World} {A : Option Addr} {l : List UInt8} {k : Option Nat} (h : BytesAway w A l k) : BytesAt w A l := fun i b hi => by
  obtain ⟨g, o, e, _, hc⟩ := h i b hi
  exact ⟨g, o, e, hc⟩
theorem BytesAway.below {w w' : World} {A : Option Addr} {l : List UInt8} {k : Option Nat} (h : BytesAway w A l k) (hb : Below w.heap.size w w') : BytesAway w' A l k := fun i b hi => by
  obtain ⟨g, o, e, hn, hc⟩ := h i b hi
  exact ⟨g, o, e, hn, by rw [World.cell?_of_block (hb.block g (World.block_lt_of_cell? _ _ hc))]; exact hc⟩

/-- A slice of bytes as a value. -/
def SlOf (w : World) (x : Value) (l : List UInt8) (k : Option Nat) : Prop := ∃ A c, x = .slice A l.length c ∧ BytesAway w A l k
/-- A row of slices that the call owns. -/
def ListIs (w : World) (base : Nat) (v : Value) (ls : List (List UInt8)) : Prop :=
  ∃ vs : List Value, w.ownsRow base 22 1 v ls.length vs ∧ vs.length = ls.length ∧ ∀ (i : Nat) (x : Value), vs[i]? = some x → ∃ l, ls[i]? = some l ∧ SlOf w x l v.ownBlock

theorem ListIs.nil (w : World) (base : Nat) : ListIs w base (.slice none 0 0) [] := ⟨[], World.ownsRow_nil _ _ _ _, rfl, fun i x h => by simp at h⟩
theorem ownsRow_below {w w' : World} {base B : Nat} {t : TypeId} {s : Nat} {v : Value} {n : Nat} {xs : List Value} (h : w.ownsRow base t s v n xs) (hb : Below B w w') (hB : w.heap.size ≤ B) : w'.ownsRow base t s v n xs := by
  refine ⟨h.1, ?_⟩
  rcases h.2 with h0 | ⟨g', cap, cur, e, hb2, hgg, rest⟩
  · exact .inl h0
  · exact .inr ⟨g', cap, cur, e, hb2, (hb.block g' (Nat.lt_of_lt_of_le (Array.getElem?_eq_some_iff.1 hgg).1 hB)).trans hgg, rest⟩
theorem ListIs.below {w w' : World} {base : Nat} {v : Value} {ls : List (List UInt8)} (h : ListIs w base v ls) (hb : Below w.heap.size w w') : ListIs w' base v ls := by
  obtain ⟨vs, h1, h2, h3⟩ := h
  refine ⟨vs, ownsRow_below h1 hb (Nat.le_refl _), h2, fun i x hx => ?_⟩
  obtain ⟨l, hl, A, c, e, ha⟩ := h3 i x hx
  exact ⟨l, hl, A, c, e, ha.below hb⟩

/-- Lists of bytes as they lie in memory. -/
def RowsAt (w : World) (A : Option Addr) (ls : List (List UInt8)) : Prop := ∀ i l, ls[i]? = some l → ∃ g o B c, A = some ⟨g, o, none⟩ ∧ w.cell? ⟨g, o + i, none⟩ = some (.slice B l.length c) ∧ BytesAt w B l
theorem RowsAt.below {w w' : World} {A : Option Addr} {ls : List (List UInt8)} (h : RowsAt w A ls) (hb : Below w.heap.size w w') : RowsAt w' A ls := fun i l hi => by
  obtain ⟨g, o, B, c, e, hc, hB⟩ := h i l hi
  exact ⟨g, o, B, c, e, by rw [World.cell?_of_block (hb.block g (World.block_lt_of_cell? _ _ hc))]; exact hc, hB.below hb⟩

theorem ListIs.rows {w : World} {base : Nat} {v : Value} {ls : List (List UInt8)} (h : ListIs w base v ls) : ∃ A c, v = .slice A ls.length c ∧ RowsAt w A ls := by
  obtain ⟨vs, h1, h2, h3⟩ := h
  have h1' := h1
  rcases h1.2 with ⟨e, hn⟩ | ⟨g, cap, cur, e, _⟩
  · have hl : ls = [] := by
      apply List.eq_nil_of_length_eq_zero
      exact hn
    subst hl
    exact ⟨none, 0, e, fun i l hi => by simp at hi⟩
  · subst e
    refine ⟨some ⟨g, 0, none⟩, cap, rfl, fun i l hi => ?_⟩
    have hil := (List.getElem?_eq_some_iff.1 hi).1
    obtain ⟨x, hx⟩ : ∃ x, vs[i]? = some x := ⟨vs[i]'(by omega), List.getElem?_eq_getElem _⟩
    obtain ⟨l', hl', B, c, rfl, ha⟩ := h3 i x hx
    rw [hi] at hl'
    cases hl'
    refine ⟨g, 0, B, c, rfl, ?_, ha.at⟩
    rw [Nat.zero_add, World.ownsRow.cellAt h1' i (by omega), hx]

theorem info_bytes : (Try.prog.info? 22).map (fun i => (i.zero, i.size, i.bytes)) = some (some (.slice none 0 0), 1, 24) := by kernel_rfl

/-- One more, written out ahead of it. -/
theorem wpList_append_list {ops : Array Oper} {rest : List Oper} {a : Act} {Q : Exit → Act → World → Prop} {s x : Operand} {ps : String} {af : Array Edge} {w : World} {base : Nat} {v : Value} {ls : List (List UInt8)} {g k c : Nat} (d : Tmp) (l : List UInt8) (hL : ListIs w base v ls)
    (hs : a.eval s = v) (hx : a.eval x = .slice (some ⟨w.heap.size, 0, none⟩) 1 1) (hk : k = l.length) (hB : BytesAway w (some ⟨g, 0, none⟩) l v.ownBlock) (hn : ls.length + 1 ≤ 1099511627776) (hbase : base ≤ w.heap.size)
    (h : ∀ v' w', ListIs w' base v' (ls ++ [l]) → (w.alloc (.cells #[.slice (some ⟨g, 0, none⟩) k c] 22)).grownBy w' v.ownBlock → (∀ b, v.ownBlock = some b → base ≤ b) → wpList Try.prog ops Q rest (a.put (some d) v') w') :
    wpList Try.prog ops Q ({ dst := some d, op := .call { callee := .builtin .append, args := #[s, x], argTypes := #[31, 31] }, type := 31, pos := ps, after := af, guard := none } :: rest) a (w.alloc (.cells #[.slice (some ⟨g, 0, none⟩) k c] 22)) := by
  subst hk
  obtain ⟨vs, h1, h2, h3⟩ := hL
  obtain ⟨i, hi, hz, hsz, hby⟩ := info_parts info_bytes
  have hlt : ∀ b, v.ownBlock = some b → base ≤ b ∧ b < w.heap.size := fun b hb => World.ownsRow.lt h1 b hb
  obtain ⟨gg, cc, w', hap, hown, hgrow, hat, _⟩ := run_append_lies (P := Try.prog) (w.alloc (.cells #[.slice (some ⟨g, 0, none⟩) l.length c] 22)) 31 31 base 22 i _ 1 24 Try.underlying31 hi hz hsz hby (by rfl) (by omega) v ls.length vs (World.ownsRow.alloc h1 _) ⟨w.heap.size, 0, none⟩ 1 1 [.slice (some ⟨g, 0, none⟩) l.length c] rfl
    (fun j u hu => by
      have hj : j = 0 := by have := (List.getElem?_eq_some_iff.1 hu).1; simp at this; omega
      subst hj
      simp at hu
      subst hu
      rw [Addr.add_mid, World.cell?_alloc_mark]
      rfl) (by intro u hu; simp at hu; subst hu; rfl) (by omega) (by unfold maxLen; omega) (by omega) (by simp; omega) _ rfl
  refine wpList_append_to d hap hs hx (h _ w' ?_ hgrow (fun b hb => (hlt b hb).1))
  have keep : ∀ (A : Option Addr) (m : List UInt8), BytesAway w A m v.ownBlock → BytesAway w' A m (some gg) := fun A m hA j b hj => by
    obtain ⟨g1, o1, e, hne, hc⟩ := hA j b hj
    have hlt1 := World.block_lt_of_cell? _ _ hc
    have hlt1 : g1 < w.heap.size := hlt1
    refine ⟨g1, o1, e, ?_, World.grownBy.cell hgrow (a := ⟨g1, o1 + j, none⟩) ?_ hne⟩
    · rcases hat with hat | hat
      · rw [← hat]; exact hne
      · intro e2
        injection e2 with e2
        rw [hat] at e2
        simp at e2
        omega
    · rw [World.cell?_of_block (Below.heap_alloc w _ g1 hlt1)]
      exact hc
  refine ⟨vs ++ [.slice (some ⟨g, 0, none⟩) l.length c], by rw [List.length_append]; exact hown, by simp [h2], fun j x hx => ?_⟩
  by_cases hj : j < ls.length
  · rw [List.getElem?_append_left (by omega)] at hx
    obtain ⟨m, hm, A, c', e, ha⟩ := h3 j x hx
    exact ⟨m, by rw [List.getElem?_append_left hj]; exact hm, A, c', e, keep A m ha⟩
  · have hj2 := (List.getElem?_eq_some_iff.1 hx).1
    rw [List.length_append, List.length_singleton] at hj2
    have hj3 : j = ls.length := by omega
    subst hj3
    rw [List.getElem?_append_right (by omega), h2] at hx
    simp at hx
    subst hx
    exact ⟨l, by simp, _, _, rfl, keep _ _ hB⟩
end Go.Proofs.Ythdenpdhckichaa
