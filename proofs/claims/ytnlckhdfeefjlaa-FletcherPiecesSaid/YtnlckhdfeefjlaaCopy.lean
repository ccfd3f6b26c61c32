/-
  Bytes appended to a row of bytes that the call owns: the row that comes of it. Condition: no more than 2^40 bytes in all.
-/
import Derived.Test.YtnlckhdfeefjlaaSum
import Derived.Lib.SmallJoins
import Derived.Laws.OwnMore
import Derived.Laws.MakeOwn
import Derived.Laws.BitsAllLaws
namespace Go.Proofs.Ytnlckhdfeefjlaa
open Go.RowKit Go.Deep

theorem info_u8 : (Try.prog.info? 5).map (fun i => (i.zero, i.size, i.bytes)) = some (some (.int .u8 0), 1, 1) := by kernel_rfl
theorem info_parts {t : TypeId} {z : Value} {s b : Nat} (h : (Try.prog.info? t).map (fun i => (i.zero, i.size, i.bytes)) = some (some z, s, b)) : ∃ i, Try.prog.info? t = some i ∧ i.zero = some z ∧ i.size = s ∧ i.bytes = b := by
  cases hi : Try.prog.info? t with
  | none => rw [hi] at h; cases h
  | some i =>
    rw [hi] at h
    simp only [Option.map_some, Option.some.injEq, Prod.mk.injEq] at h
    exact ⟨i, rfl, h.1, h.2.1, h.2.2⟩
theorem run_empty (w : World) : (Instr.buildSlice 22 0 #[]).run Try.prog w = .ok (.slice (some ⟨w.heap.size, 0, none⟩) 0 0) (w.alloc (.cells #[] 5)) := by kernel_rfl

/-- A row of bytes of the call's own: block g, not older than base. -/
def Own (w : World) (base g n c : Nat) (l : List UInt8) : Prop := w.ownsRow base 5 1 (.slice (some ⟨g, 0, none⟩) n c) n (bytesV l) ∧ l.length = n

theorem Own.start (w : World) : Own (w.alloc (.cells #[] 5)) w.heap.size w.heap.size 0 0 [] := ⟨⟨rfl, .inr ⟨_, 0, #[], rfl, Nat.le_refl _, heap_alloc_new w _, Nat.le_refl _, by unfold maxLen; omega, rfl, rfl⟩⟩, rfl⟩
theorem Own.ge {w : World} {base g n c : Nat} {l : List UInt8} (h : Own w base g n c l) : base ≤ g := by
  rcases h.1.2 with ⟨h', _⟩ | ⟨g', cap', cur, h', hb, _⟩
  · simp at h'
  · simp only [Value.slice.injEq, Option.some.injEq, Addr.mk.injEq, and_true, true_and] at h'
    rw [h'.1]; exact hb
theorem Own.bytes {w : World} {base g n c : Nat} {l : List UInt8} (h : Own w base g n c l) : BytesAt w (some ⟨g, 0, none⟩) l := by
  refine BytesAt.of_range fun i v hv => ?_
  have hi := (List.getElem?_eq_some_iff.1 hv).1
  rw [length_bytesV, h.2] at hi
  rw [Nat.zero_add, World.ownsRow.cellAt h.1 i (by omega), hv]
theorem Own.cell {w : World} {base g n c : Nat} {l : List UInt8} (h : Own w base g n c l) (i : Nat) (b : UInt8) (hi : l[i]? = some b) : w.cell? ⟨g, i, none⟩ = some (.int .u8 b.toNat) := by
  obtain ⟨g', o, e, hc⟩ := h.bytes i b hi
  cases e
  rw [Nat.zero_add] at hc
  exact hc
theorem Own.below {w w' : World} {base g n c B : Nat} {l : List UInt8} (h : Own w base g n c l) (hb : Below B w w') (hB : w.heap.size ≤ B) : Own w' base g n c l := by
  refine ⟨⟨h.1.1, ?_⟩, h.2⟩
  rcases h.1.2 with h0 | ⟨g', cap, cur, e, hb2, hgg, rest⟩
  · exact .inl h0
  · exact .inr ⟨g', cap, cur, e, hb2, (hb.block g' (Nat.lt_of_lt_of_le (Array.getElem?_eq_some_iff.1 hgg).1 hB)).trans hgg, rest⟩

theorem run_append_bytes {w : World} {base g n c : Nat} {ys : List UInt8} (h : Own w base g n c ys) (A : Option Addr) (l : List UInt8) (cap : Nat) (hb : BytesAt w A l) (hn : n + l.length ≤ 1099511627776) (hbase : base ≤ w.heap.size) :
    ∃ g' c' w', (Builtin.append_ #[22, 22] 22 #[.slice (some ⟨g, 0, none⟩) n c, .slice A l.length cap]).run Try.prog w = .ok (.slice (some ⟨g', 0, none⟩) (n + l.length) c') w' ∧ Own w' base g' (n + l.length) c' (ys ++ l) ∧ w.grownBy w' (some g) := by
  obtain ⟨i, hi, hz, hs, hby⟩ := info_parts info_u8
  match l, hb, hn with
  | [], _, _ =>
    refine ⟨g, c, w, ?_, by rw [List.append_nil]; exact h, ⟨rfl, rfl, rfl, Nat.le_refl _, fun _ _ _ => rfl⟩⟩
    have hle : n ≤ c := by
      rcases h.1.2 with ⟨h', _⟩ | ⟨g', cap', cur, h', _, _, hnc, _⟩
      · simp at h'
      · simp only [Value.slice.injEq, Option.some.injEq, Addr.mk.injEq, and_true, true_and] at h'
        rw [h'.2]; exact hnc
    have h0 : ∀ a : Addr, (loadCells a 0).run Try.prog w = .ok #[] w := fun a => by
      have := run_loadCells_list (P := Try.prog) w a [] (fun j v hj => by simp at hj)
      simpa using this
    cases A <;> simp [h0, Builtin.append_, run_underlying Try.underlying22, run_underlying Try.underlying5, sizeOf, typeInfo, hi, Builtin.lenOf, Builtin.firstCells, hle, storeCells]
  | b :: r, hb, hn =>
    obtain ⟨ga, oa, rfl, _⟩ := hb 0 b rfl
    obtain ⟨gg, cc, w', hap, hown, hgrow, _, _⟩ := run_append_lies (P := Try.prog) w 22 22 base 5 i _ 1 1 Try.underlying22 hi hz hs hby (by rfl) (by omega) (.slice (some ⟨g, 0, none⟩) n c) n (bytesV ys) h.1 ⟨ga, oa, none⟩ (b :: r).length cap (bytesV (b :: r)) (by rw [length_bytesV, Nat.mul_one])
      (fun j u hu => by
        have hj := (List.getElem?_eq_some_iff.1 hu).1
        rw [length_bytesV] at hj
        obtain ⟨g2, o2, e2, hc⟩ := hb j _ (List.getElem?_eq_getElem hj)
        cases e2
        rw [Addr.add_mid, hc]
        simp only [bytesV, List.getElem?_map, List.getElem?_eq_getElem hj, Option.map_some] at hu
        exact hu) oneCell_bytesV (by simp) (by unfold maxLen; omega) (by omega) hbase _ rfl
    exact ⟨gg, cc, w', hap, ⟨by rw [bytesV_append]; exact hown, by rw [List.length_append, h.2]⟩, hgrow⟩

/-- An append whose outcome is known, for the walk. -/
theorem wpList_append_eq {P : Program} {w w' : World} {ops : Array Oper} {rest : List Oper} {o : Oper} {a : Act} {Q : Exit → Act → World → Prop} {v u r : Value} (hgd : o.guard = none) (s x : Operand) (t : TypeId)
    (ho : o.op = .call { callee := .builtin .append, args := #[s, x], argTypes := #[t, t] }) (hs : a.eval s = v) (hx : a.eval x = u) (hap : (Builtin.append_ #[t, t] o.type #[v, u]).run P w = .ok r w')
    (h : wpList P ops Q rest (a.put o.dst r) w') : wpList P ops Q (o :: rest) a w := by
  refine wpList_plain hgd fun K hK => ?_
  unfold Oper.wp
  simp [execOp, ho, resolve, invoke, builtin, hs, hx, hap, Result.andThen]
  exact hK _ _ h

/-- .. the one whose outcome goes to the slot d. -/
theorem wpList_append_to {P : Program} {w w' : World} {ops : Array Oper} {rest : List Oper} {a : Act} {Q : Exit → Act → World → Prop} {v u r : Value} {s x : Operand} {t ty : TypeId} {ps : String} {af : Array Edge} (d : Tmp) (hap : (Builtin.append_ #[t, t] ty #[v, u]).run P w = .ok r w')
    (hs : a.eval s = v) (hx : a.eval x = u) (h : wpList P ops Q rest (a.put (some d) r) w') :
    wpList P ops Q ({ dst := some d, op := .call { callee := .builtin .append, args := #[s, x], argTypes := #[t, t] }, type := ty, pos := ps, after := af, guard := none } :: rest) a w :=
  wpList_append_eq rfl s x t rfl hs hx hap h

theorem xor_u8 (b c : UInt8) : bits .xor .u8 (b.toNat : Int) (c.toNat : Int) = ((b ^^^ c).toNat : Int) := by
  rw [u8_xor_nat _ _ b.toNat_lt c.toNat_lt, UInt8.toNat_xor]
end Go.Proofs.Ytnlckhdfeefjlaa
