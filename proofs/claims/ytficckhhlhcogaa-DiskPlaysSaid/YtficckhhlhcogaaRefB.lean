/-
  Bytes appended to a row of bytes that the call owns; parts of a slice of bytes; an element's address. Condition: no more than 2^47 bytes in all.
-/
import Derived.Test.YtficckhhlhcogaaRef5
import Derived.Laws.OwnMore
namespace Go.Proofs.Ytficckhhlhcogaa
open Go.RowKit Go.Maps Go.Deep

/-- A row of bytes of the call's own: block g, not older than base. -/
def Own (w : World) (base g n c : Nat) (l : List UInt8) : Prop := w.ownsRow base 5 1 (.slice (some ⟨g, 0, none⟩) n c) n (bytesV l) ∧ l.length = n

theorem Own.start (w : World) : Own (w.alloc (.cells #[] 5)) w.heap.size w.heap.size 0 0 [] := ⟨⟨rfl, .inr ⟨_, 0, #[], rfl, Nat.le_refl _, heap_alloc_new w _, Nat.le_refl _, by unfold maxLen; omega, rfl, rfl⟩⟩, rfl⟩
theorem Own.ge {w : World} {base g n c : Nat} {l : List UInt8} (h : Own w base g n c l) : base ≤ g := by
  rcases h.1.2 with ⟨h', _⟩ | ⟨g', cap', cur, h', hb, _⟩
  · simp at h'
  · simp only [Value.slice.injEq, Option.some.injEq, Addr.mk.injEq, and_true, true_and] at h'
    rw [h'.1]; exact hb
theorem Own.lt {w : World} {base g n c : Nat} {l : List UInt8} (h : Own w base g n c l) : g < w.heap.size := by
  rcases h.1.2 with ⟨h', _⟩ | ⟨g', cap', cur, h', hb, hg, _⟩
  · simp at h'
  · simp only [Value.slice.injEq, Option.some.injEq, Addr.mk.injEq, and_true, true_and] at h'
    rw [h'.1]; exact (Array.getElem?_eq_some_iff.1 hg).1
theorem Own.le {w : World} {base g n c : Nat} {l : List UInt8} (h : Own w base g n c l) : n ≤ c := by
  rcases h.1.2 with ⟨h', _⟩ | ⟨g', cap', cur, h', _, _, hnc, _⟩
  · simp at h'
  · simp only [Value.slice.injEq, Option.some.injEq, Addr.mk.injEq, and_true, true_and] at h'
    rw [h'.2]; exact hnc
theorem Own.bytes {w : World} {base g n c : Nat} {l : List UInt8} (h : Own w base g n c l) : BytesAt w (some ⟨g, 0, none⟩) l := by
  intro i b hi
  have hlt := (List.getElem?_eq_some_iff.1 hi).1
  refine ⟨g, 0, rfl, ?_⟩
  rw [Nat.zero_add, World.ownsRow.cellAt h.1 i (by have := h.2; omega)]
  simp [bytesV, hi]
theorem Own.below {w w' : World} {base g n c B : Nat} {l : List UInt8} (h : Own w base g n c l) (hb : Below B w w') (hB : w.heap.size ≤ B) : Own w' base g n c l := by
  refine ⟨⟨h.1.1, ?_⟩, h.2⟩
  rcases h.1.2 with h0 | ⟨g', cap, cur, e, hb2, hgg, rest⟩
  · exact .inl h0
  · exact .inr ⟨g', cap, cur, e, hb2, (hb.block g' (Nat.lt_of_lt_of_le (Array.getElem?_eq_some_iff.1 hgg).1 hB)).trans hgg, rest⟩
theorem run_append_bytes {w : World} {base g n c : Nat} {ys : List UInt8} (h : Own w base g n c ys) (A : Option Addr) (l : List UInt8) (cap : Nat) (hb : BytesAt w A l) (hn : n + l.length ≤ 140737488355328) (hbase : base ≤ w.heap.size) :
    ∃ g' c' w', (Builtin.append_ #[31, 31] 31 #[.slice (some ⟨g, 0, none⟩) n c, .slice A l.length cap]).run Try.prog w = .ok (.slice (some ⟨g', 0, none⟩) (n + l.length) c') w' ∧ Own w' base g' (n + l.length) c' (ys ++ l) ∧ w.grownBy w' (some g) ∧ (g' = g ∨ g' = w.heap.size) := by
  obtain ⟨i, hi, hz, hs, hby⟩ := info_parts info_u8
  match l, hb, hn with
  | [], _, _ =>
    refine ⟨g, c, w, ?_, by rw [List.append_nil]; exact h, ⟨rfl, rfl, rfl, Nat.le_refl _, fun _ _ _ => rfl⟩, .inl rfl⟩
    have hle := h.le
    have h0 : ∀ a : Addr, (loadCells a 0).run Try.prog w = .ok #[] w := fun a => by
      have := run_loadCells_list (P := Try.prog) w a [] (fun j v hj => by simp at hj)
      simpa using this
    cases A <;> simp [h0, Builtin.append_, run_underlying Try.underlying31, run_underlying Try.underlying5, sizeOf, typeInfo, hi, Builtin.lenOf, Builtin.firstCells, hle, storeCells]
  | b :: r, hb, hn =>
    obtain ⟨ga, oa, rfl, _⟩ := hb 0 b rfl
    obtain ⟨gg, cc, w', hap, hown, hgrow, hat, _⟩ := run_append_lies (P := Try.prog) w 31 31 base 5 i _ 1 1 Try.underlying31 hi hz hs hby (by rfl) (by omega) (.slice (some ⟨g, 0, none⟩) n c) n (bytesV ys) h.1 ⟨ga, oa, none⟩ (b :: r).length cap (bytesV (b :: r)) (by rw [length_bytesV, Nat.mul_one])
      (fun j u hu => by
        have hj := (List.getElem?_eq_some_iff.1 hu).1
        rw [length_bytesV] at hj
        obtain ⟨g2, o2, e2, hc⟩ := hb j _ (List.getElem?_eq_getElem hj)
        cases e2
        rw [Addr.add_mid, hc]
        simp only [bytesV, List.getElem?_map, List.getElem?_eq_getElem hj, Option.map_some] at hu
        exact hu) oneCell_bytesV (by simp) (by unfold maxLen; omega) (by omega) hbase _ rfl
    exact ⟨gg, cc, w', hap, ⟨by rw [bytesV_append]; exact hown, by rw [List.length_append, h.2]⟩, hgrow, hat.imp (fun e => by injection e with e; exact e.symm) id⟩

theorem u8_slice_to {W : World} {A : Option Addr} {n cap k : Nat} (hk : k ≤ cap) (hc : cap ≤ maxLen) : (Instr.sliceAt 31 (.slice A n cap) none (some (.int .i64 (k : Int))) none).run Try.prog W = .ok (.slice A k cap) W := by
  unfold maxLen at hc
  have h1 : (k : Int) ≤ (cap : Int) := by omega
  have h0 : (0 : Int) ≤ (k : Int) := by omega
  go_simp
theorem u8_slice_from {W : World} {A : Option Addr} {n cap k : Nat} (hk : k ≤ n) (hn : n ≤ cap) (hc : cap ≤ maxLen) : (Instr.sliceAt 31 (.slice A n cap) (some (.int .i64 (k : Int))) none none).run Try.prog W = .ok (.slice (if cap = k then A else A.map (·.add k)) (n - k) (cap - k)) W := by
  unfold maxLen at hc
  have h1 : (k : Int) ≤ (n : Int) := by omega
  have h2 : (n : Int) ≤ (cap : Int) := by omega
  have h0 : (0 : Int) ≤ (k : Int) := by omega
  go_simp
theorem call_addr {W : World} {kg n cap i : Nat} (hi : i < n) (hn : n ≤ maxLen) : (Instr.indexAt 51 (.slice (some ⟨kg, 0, none⟩) n cap) (.int .i64 (i : Int))).run Try.prog W = .ok (.pointer (some ⟨kg, i * 2, none⟩)) W := by
  unfold maxLen at hn
  have h1 : (i : Int) < (n : Int) := by omega
  have h0 : (0 : Int) ≤ (i : Int) := by omega
  go_simp
theorem ref_build_any (x : Int) (A : Option Addr) (c : Nat) (w : World) : (Instr.build 63 #[(0, .int .i64 x), (1, .slice A 32 c)]).run Try.prog w = .ok (.agg #[.int .i64 x, .slice A 32 c]) w := by kernel_rfl
theorem ref_slice_any (x : Int) (A : Option Addr) (c : Nat) (w : World) : (Instr.buildSlice 51 1 #[(0, .agg #[.int .i64 x, .slice A 32 c])]).run Try.prog w = .ok (.slice (some ⟨w.heap.size, 0, none⟩) 1 1) (w.alloc (.cells #[.int .i64 x, .slice A 32 c] 63)) := by kernel_rfl
theorem int_load_slot {w : World} {a : Addr} {n : Int} (h : w.cell? a = some (.int .i64 n)) : (Instr.loadAt 3 (.pointer (some a))).run Try.prog w = .ok (.int .i64 n) w := by
  go_simp

/-- An append whose outcome is known, to the slot d, for the walk. -/
theorem wpList_append_to {P : Program} {w w' : World} {ops : Array Oper} {rest : List Oper} {a : Act} {Q : Exit → Act → World → Prop} {v u r : Value} {s x : Operand} {t ty : TypeId} {ps : String} {af : Array Edge} (d : Tmp) (hap : (Builtin.append_ #[t, t] ty #[v, u]).run P w = .ok r w')
    (hs : a.eval s = v) (hx : a.eval x = u) (h : wpList P ops Q rest (a.put (some d) r) w') :
    wpList P ops Q ({ dst := some d, op := .call { callee := .builtin .append, args := #[s, x], argTypes := #[t, t] }, type := ty, pos := ps, after := af, guard := none } :: rest) a w := by
  refine wpList_plain rfl fun K hK => ?_
  unfold Oper.wp
  simp [execOp, resolve, invoke, builtin, hs, hx, hap, Result.andThen]
  exact hK _ _ h

theorem Own.turned {w w' : World} {base g n c : Nat} {l : List UInt8} {T : Nat → Prop} (h : Own w base g n c l) (ht : Turned T w w') (hn : ¬ T g) : Own w' base g n c l :=
  ⟨ownsRow_turned h.1 ht (fun k hk => by
    have e : g = k := by simpa [Value.ownBlock] using hk
    rw [← e]; exact hn), h.2⟩
theorem Own.stored {w : World} {base g n c : Nat} {l : List UInt8} (h : Own w base g n c l) (k : Nat) (x : UInt8) : Own (w.setCell ⟨g, k, none⟩ (.int .u8 x.toNat)) base g n c (l.set k x) := by
  refine ⟨?_, by rw [List.length_set, h.2]⟩
  have := (World.ownsRow.stored h.1 k (byteV x)).1
  have e : bytesV (l.set k x) = (bytesV l).set k (byteV x) := by simp [bytesV, List.map_set]
  rw [e]
  exact this
theorem Own.cell {w : World} {base g n c : Nat} {l : List UInt8} (h : Own w base g n c l) (i : Nat) (b : UInt8) (hi : l[i]? = some b) : w.cell? ⟨g, i, none⟩ = some (.int .u8 b.toNat) := by
  obtain ⟨g', o, e, hc⟩ := h.bytes i b hi
  cases e
  rw [Nat.zero_add] at hc
  exact hc
end Go.Proofs.Ytficckhhlhcogaa
