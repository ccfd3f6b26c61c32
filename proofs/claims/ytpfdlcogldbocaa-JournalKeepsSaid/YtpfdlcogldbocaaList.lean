/-
  Lists of bytes in memory: a row of slices that the call owns, and what is appended to it; whether two such lists are one. Condition: those named at each fact.
  A row of bytes that the call owns, none at first, and what is appended to it; frames one behind the other. Condition: those named at each fact.
-/
import Derived.Test.YtpfdlcogldbocaaRefTake2
namespace Go.Proofs.Ytpfdlcogldbocaa
open Go.RowKit Go.Deep

/-- Bytes in memory, from block base on, none of them in block k. -/
def BytesAway (w : World) (A : Option Addr) (l : List UInt8) (k : Option Nat) (base : Nat) : Prop := ∀ i b, l[i]? = some b → ∃ g o, A = some ⟨g, o, none⟩ ∧ (some g ≠ k ∧ base ≤ g) ∧ w.cell? ⟨g, o + i, none⟩ = some (byteV b)
theorem BytesAway.at {w : World} {A : Option Addr} {l : List UInt8} {k : Option Nat} {base : Nat} (h : BytesAway w A l k base) : BytesAt w A l := fun i b hi => by
  obtain ⟨g, o, e, _, hc⟩ := h i b hi
  exact ⟨g, o, e, hc⟩
theorem BytesAway.below {w w' : World} {A : Option Addr} {l : List UInt8} {k : Option Nat} {base : Nat} (h : BytesAway w A l k base) (hb : Below w.heap.size w w') : BytesAway w' A l k base := fun i b hi => by
  obtain ⟨g, o, e, hn, hc⟩ := h i b hi
  exact ⟨g, o, e, hn, by rw [World.cell?_of_block (hb.block g (World.block_lt_of_cell? _ _ hc))]; exact hc⟩

/-- A slice of bytes as a value. -/
def SlOf (w : World) (x : Value) (l : List UInt8) (k : Option Nat) (base : Nat) : Prop := ∃ A c, x = .slice A l.length c ∧ BytesAway w A l k base
/-- A row of slices that the call owns. -/
def ListIs (w : World) (base : Nat) (v : Value) (ls : List (List UInt8)) : Prop :=
  ∃ vs : List Value, w.ownsRow base 39 1 v ls.length vs ∧ vs.length = ls.length ∧ ∀ (i : Nat) (x : Value), vs[i]? = some x → ∃ l, ls[i]? = some l ∧ SlOf w x l v.ownBlock base

theorem ListIs.nil (w : World) (base : Nat) : ListIs w base (.slice none 0 0) [] := ⟨[], World.ownsRow_nil _ _ _ _, rfl, fun i x h => by simp at h⟩
theorem ownsRow_below {w w' : World} {base B : Nat} {t : TypeId} {s : Nat} {v : Value} {n : Nat} {xs : List Value} (h : w.ownsRow base t s v n xs) (hb : Below B w w') (hB : w.heap.size ≤ B) : w'.ownsRow base t s v n xs := by
  refine ⟨h.1, ?_⟩
  rcases h.2 with h0 | ⟨g', cap, cur, e, hb2, hgg, rest⟩
  · exact .inl h0
  · exact .inr ⟨g', cap, cur, e, hb2, (hb.block g' (Nat.lt_of_lt_of_le (Array.getElem?_eq_some_iff.1 hgg).1 hB)).trans hgg, rest⟩
theorem ListIs.below {w w' : World} {base : Nat} {v : Value} {ls : List (List UInt8)} (h : ListIs w base v ls) (hb : Below w.heap.size w w') : ListIs w' base v ls := by
  obtain ⟨vs, h1, h2, h3⟩ := h
  refine ⟨vs, ownsRow_below h1 hb (Nat.le_refl _), h2, fun i x hx => ?_⟩
  obtain ⟨l, hl, A, c, e, ha⟩ := h3 i x hx
  exact ⟨l, hl, A, c, e, ha.below hb⟩

/-- Lists of bytes as they lie in memory. -/
def RowsAt (w : World) (A : Option Addr) (ls : List (List UInt8)) : Prop := ∀ i l, ls[i]? = some l → ∃ g o B c, A = some ⟨g, o, none⟩ ∧ w.cell? ⟨g, o + i, none⟩ = some (.slice B l.length c) ∧ BytesAt w B l
theorem RowsAt.below {w w' : World} {A : Option Addr} {ls : List (List UInt8)} (h : RowsAt w A ls) (hb : Below w.heap.size w w') : RowsAt w' A ls := fun i l hi => by
  obtain ⟨g, o, B, c, e, hc, hB⟩ := h i l hi
  exact ⟨g, o, B, c, e, by rw [World.cell?_of_block (hb.block g (World.block_lt_of_cell? _ _ hc))]; exact hc, hB.below hb⟩

theorem ListIs.rows {w : World} {base : Nat} {v : Value} {ls : List (List UInt8)} (h : ListIs w base v ls) : ∃ A c, v = .slice A ls.length c ∧ RowsAt w A ls := by
  obtain ⟨vs, h1, h2, h3⟩ := h
  have h1' := h1
  rcases h1.2 with ⟨e, hn⟩ | ⟨g, cap, cur, e, _⟩
  · have hl : ls = [] := by
      apply List.eq_nil_of_length_eq_zero
      exact hn
    subst hl
    exact ⟨none, 0, e, fun i l hi => by simp at hi⟩
  · subst e
    refine ⟨some ⟨g, 0, none⟩, cap, rfl, fun i l hi => ?_⟩
    have hil := (List.getElem?_eq_some_iff.1 hi).1
    obtain ⟨x, hx⟩ : ∃ x, vs[i]? = some x := ⟨vs[i]'(by omega), List.getElem?_eq_getElem _⟩
    obtain ⟨l', hl', B, c, rfl, ha⟩ := h3 i x hx
    rw [hi] at hl'
    cases hl'
    refine ⟨g, 0, B, c, rfl, ?_, ha.at⟩
    rw [Nat.zero_add, World.ownsRow.cellAt h1' i (by omega), hx]

/-- Lists of bytes as they lie in memory, in blocks of Y. -/
def RowsIn (w : World) (Y : Nat → Prop) (A : Option Addr) (ls : List (List UInt8)) : Prop :=
  ∀ i l, ls[i]? = some l → ∃ g o B c, A = some ⟨g, o, none⟩ ∧ Y g ∧ w.cell? ⟨g, o + i, none⟩ = some (.slice B l.length c) ∧ ∀ j b, l[j]? = some b → ∃ h p, B = some ⟨h, p, none⟩ ∧ Y h ∧ w.cell? ⟨h, p + j, none⟩ = some (byteV b)
theorem RowsIn.at {w : World} {Y : Nat → Prop} {A : Option Addr} {ls : List (List UInt8)} (h : RowsIn w Y A ls) : RowsAt w A ls := fun i l hi => by
  obtain ⟨g, o, B, c, e, _, hc, hB⟩ := h i l hi
  refine ⟨g, o, B, c, e, hc, fun j b hj => ?_⟩
  obtain ⟨h, p, e2, _, hc2⟩ := hB j b hj
  exact ⟨h, p, e2, hc2⟩
theorem RowsIn.more {w : World} {Y Y' : Nat → Prop} {A : Option Addr} {ls : List (List UInt8)} (h : RowsIn w Y A ls) (hY : ∀ j, Y j → Y' j) : RowsIn w Y' A ls := fun i l hi => by
  obtain ⟨g, o, B, c, e, hg, hc, hB⟩ := h i l hi
  refine ⟨g, o, B, c, e, hY g hg, hc, fun j b hj => ?_⟩
  obtain ⟨h, p, e2, hh, hc2⟩ := hB j b hj
  exact ⟨h, p, e2, hY h hh, hc2⟩
theorem ListIs.rowsIn {w : World} {base : Nat} {v : Value} {ls : List (List UInt8)} (h : ListIs w base v ls) : ∃ A c, v = .slice A ls.length c ∧ RowsIn w (fun j => base ≤ j ∧ j < w.heap.size) A ls := by
  obtain ⟨vs, h1, h2, h3⟩ := h
  have h1' := h1
  have hlt := World.ownsRow.lt h1
  rcases h1.2 with ⟨e, hn⟩ | ⟨g, cap, cur, e, _⟩
  · have hl : ls = [] := by
      apply List.eq_nil_of_length_eq_zero
      exact hn
    subst hl
    exact ⟨none, 0, e, fun i l hi => by simp at hi⟩
  · subst e
    refine ⟨some ⟨g, 0, none⟩, cap, rfl, fun i l hi => ?_⟩
    have hil := (List.getElem?_eq_some_iff.1 hi).1
    obtain ⟨x, hx⟩ : ∃ x, vs[i]? = some x := ⟨vs[i]'(by omega), List.getElem?_eq_getElem _⟩
    obtain ⟨l', hl', B, c, rfl, ha⟩ := h3 i x hx
    rw [hi] at hl'
    cases hl'
    refine ⟨g, 0, B, c, rfl, hlt g rfl, ?_, fun j b hj => ?_⟩
    · rw [Nat.zero_add, World.ownsRow.cellAt h1' i (by omega), hx]
    · obtain ⟨h, p, e2, hn, hc2⟩ := ha j b hj
      exact ⟨h, p, e2, ⟨hn.2, World.block_lt_of_cell? _ _ hc2⟩, hc2⟩

theorem info_bytes : (Try.prog.info? 39).map (fun i => (i.zero, i.size, i.bytes)) = some (some (.slice none 0 0), 1, 24) := by kernel_rfl

/-- One more, written out ahead of it. -/
theorem wpList_append_list {ops : Array Oper} {rest : List Oper} {a : Act} {Q : Exit → Act → World → Prop} {s x : Operand} {ps : String} {af : Array Edge} {w : World} {base : Nat} {v : Value} {ls : List (List UInt8)} {g k c : Nat} (d : Tmp) (l : List UInt8) (hL : ListIs w base v ls)
    (hs : a.eval s = v) (hx : a.eval x = .slice (some ⟨w.heap.size, 0, none⟩) 1 1) (hk : k = l.length) (hB : BytesAway w (some ⟨g, 0, none⟩) l v.ownBlock base) (hn : ls.length + 1 ≤ 1099511627776) (hbase : base ≤ w.heap.size)
    (h : ∀ v' w', ListIs w' base v' (ls ++ [l]) → (w.alloc (.cells #[.slice (some ⟨g, 0, none⟩) k c] 39)).grownBy w' v.ownBlock → (∀ b, v.ownBlock = some b → base ≤ b) → wpList Try.prog ops Q rest (a.put (some d) v') w') :
    wpList Try.prog ops Q ({ dst := some d, op := .call { callee := .builtin .append, args := #[s, x], argTypes := #[49, 49] }, type := 49, pos := ps, after := af, guard := none } :: rest) a (w.alloc (.cells #[.slice (some ⟨g, 0, none⟩) k c] 39)) := by
  subst hk
  obtain ⟨vs, h1, h2, h3⟩ := hL
  obtain ⟨i, hi, hz, hsz, hby⟩ := info_parts info_bytes
  have hlt : ∀ b, v.ownBlock = some b → base ≤ b ∧ b < w.heap.size := fun b hb => World.ownsRow.lt h1 b hb
  obtain ⟨gg, cc, w', hap, hown, hgrow, hat, _⟩ := run_append_lies (P := Try.prog) (w.alloc (.cells #[.slice (some ⟨g, 0, none⟩) l.length c] 39)) 49 49 base 39 i _ 1 24 Try.underlying49 hi hz hsz hby (by rfl) (by omega) v ls.length vs (World.ownsRow.alloc h1 _) ⟨w.heap.size, 0, none⟩ 1 1 [.slice (some ⟨g, 0, none⟩) l.length c] rfl
    (fun j u hu => by
      have hj : j = 0 := by have := (List.getElem?_eq_some_iff.1 hu).1; simp at this; omega
      subst hj
      simp at hu
      subst hu
      rw [Addr.add_mid, World.cell?_alloc_mark]
      rfl) (by intro u hu; simp at hu; subst hu; rfl) (by omega) (by unfold maxLen; omega) (by omega) (by simp; omega) _ rfl
  refine wpList_append_to d hap hs hx (h _ w' ?_ hgrow (fun b hb => (hlt b hb).1))
  have keep : ∀ (A : Option Addr) (m : List UInt8), BytesAway w A m v.ownBlock base → BytesAway w' A m (some gg) base := fun A m hA j b hj => by
    obtain ⟨g1, o1, e, hne, hc⟩ := hA j b hj
    have hlt1 := World.block_lt_of_cell? _ _ hc
    have hlt1 : g1 < w.heap.size := hlt1
    obtain ⟨hne, hge⟩ := hne
    refine ⟨g1, o1, e, ⟨?_, hge⟩, World.grownBy.cell hgrow (a := ⟨g1, o1 + j, none⟩) ?_ hne⟩
    · rcases hat with hat | hat
      · rw [← hat]; exact hne
      · intro e2
        injection e2 with e2
        rw [hat] at e2
        simp at e2
        omega
    · rw [World.cell?_of_block (Below.heap_alloc w _ g1 hlt1)]
      exact hc
  refine ⟨vs ++ [.slice (some ⟨g, 0, none⟩) l.length c], by rw [List.length_append]; exact hown, by simp [h2], fun j x hx => ?_⟩
  by_cases hj : j < ls.length
  · rw [List.getElem?_append_left (by omega)] at hx
    obtain ⟨m, hm, A, c', e, ha⟩ := h3 j x hx
    exact ⟨m, by rw [List.getElem?_append_left hj]; exact hm, A, c', e, keep A m ha⟩
  · have hj2 := (List.getElem?_eq_some_iff.1 hx).1
    rw [List.length_append, List.length_singleton] at hj2
    have hj3 : j = ls.length := by omega
    subst hj3
    rw [List.getElem?_append_right (by omega), h2] at hx
    simp at hx
    subst hx
    exact ⟨l, by simp, _, _, rfl, keep _ _ hB⟩
end Go.Proofs.Ytpfdlcogldbocaa

namespace Go.Proofs.Ytpfdlcogldbocaa
open Go.RowKit Go.Deep

/-- A row of bytes of the call's own, or none as yet. -/
def OwnV (w : World) (base : Nat) (v : Value) (l : List UInt8) : Prop := w.ownsRow base 5 1 v l.length (bytesV l)
theorem OwnV.nil (w : World) (base : Nat) : OwnV w base (.slice none 0 0) [] := World.ownsRow_nil _ _ _ _
theorem OwnV.below {w w' : World} {base : Nat} {v : Value} {l : List UInt8} (h : OwnV w base v l) (hb : Below w.heap.size w w') : OwnV w' base v l := ownsRow_below h hb (Nat.le_refl _)
theorem OwnV.bytes {w : World} {base : Nat} {v : Value} {l : List UInt8} (h : OwnV w base v l) : ∃ A c, v = .slice A l.length c ∧ BytesAt w A l ∧ l.length ≤ c ∧ c ≤ maxLen := by
  have h' := h
  rcases h.2 with ⟨e, hn⟩ | ⟨g, cap, cur, e, _, _, hle, hm, _⟩
  · have hl : l = [] := List.eq_nil_of_length_eq_zero hn
    subst hl
    exact ⟨none, 0, e, BytesAt.nil _ _, Nat.le_refl _, by unfold maxLen; omega⟩
  · subst e
    exact ⟨_, cap, rfl, Own.bytes ⟨h', rfl⟩, hle, hm⟩

theorem wpList_append_ownv {ops : Array Oper} {rest : List Oper} {a : Act} {Q : Exit → Act → World → Prop} {s x : Operand} {ps : String} {af : Array Edge} {w : World} {base k cap : Nat} {v : Value} {ys l : List UInt8} {A : Option Addr} (d : Tmp) (hown : OwnV w base v ys) (hb : BytesAt w A l) (hk : k = l.length) (h0 : 0 < l.length)
    (hs : a.eval s = v) (hx : a.eval x = .slice A k cap) (hn : ys.length + l.length ≤ 1099511627776) (hbase : base ≤ w.heap.size)
    (h : ∀ v' w', OwnV w' base v' (ys ++ l) → w.grownBy w' v.ownBlock → (∀ b, v.ownBlock = some b → base ≤ b) → wpList Try.prog ops Q rest (a.put (some d) v') w') :
    wpList Try.prog ops Q ({ dst := some d, op := .call { callee := .builtin .append, args := #[s, x], argTypes := #[39, 39] }, type := 39, pos := ps, after := af, guard := none } :: rest) a w := by
  subst hk
  obtain ⟨i, hi, hz, hsz, hby⟩ := info_parts info_u8
  have hlt : ∀ b, v.ownBlock = some b → base ≤ b := fun b hb => (World.ownsRow.lt hown b hb).1
  obtain ⟨ga, oa, rfl⟩ := hb.there h0
  obtain ⟨gg, cc, w', hap, hown', hgrow, hat, _⟩ := run_append_lies (P := Try.prog) w 39 39 base 5 i _ 1 1 Try.underlying39 hi hz hsz hby (by rfl) (by omega) v ys.length (bytesV ys) hown ⟨ga, oa, none⟩ l.length cap (bytesV l) (by rw [length_bytesV, Nat.mul_one])
      (fun j u hu => by
        have hj := (List.getElem?_eq_some_iff.1 hu).1
        rw [length_bytesV] at hj
        obtain ⟨g2, o2, e2, hc⟩ := hb j _ (List.getElem?_eq_getElem hj)
        cases e2
        rw [Addr.add_mid, hc]
        simp only [bytesV, List.getElem?_map, List.getElem?_eq_getElem hj, Option.map_some] at hu
        exact hu) oneCell_bytesV h0 (by unfold maxLen; omega) (by omega) hbase _ rfl
  refine wpList_append_to d hap hs hx (h _ w' ?_ hgrow hlt)
  unfold OwnV
  rw [List.length_append, bytesV_append]
  exact hown'

theorem frames_split (ls : List (List UInt8)) (j : Nat) : frames ls = frames (ls.take j) ++ frames (ls.drop j) := by
  unfold frames
  rw [← List.flatten_append, ← List.map_append, List.take_append_drop]
theorem frames_take_le (ls : List (List UInt8)) (j : Nat) : (frames (ls.take j)).length ≤ (frames ls).length := by
  rw [frames_split ls j, List.length_append]; omega
theorem frames_take_succ (ls : List (List UInt8)) (j : Nat) (l : List UInt8) (h : ls[j]? = some l) : frames (ls.take (j + 1)) = frames (ls.take j) ++ frame l := by
  rw [List.take_add_one, h]
  exact frames_snoc _ _

end Go.Proofs.Ytpfdlcogldbocaa
