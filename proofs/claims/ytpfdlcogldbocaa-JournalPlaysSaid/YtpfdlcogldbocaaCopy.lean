/-
  Bytes appended to a row of bytes that the call owns: the row that comes of it. Condition: no more than 2^40 bytes in all.
-/
import Derived.Test.YtpfdlcogldbocaaSum
import Derived.Lib.SmallJoins
import Derived.Laws.OwnMore
import Derived.Laws.MakeOwn
import Derived.Laws.BitsAllLaws
namespace Go.Proofs.Ytpfdlcogldbocaa
open Go.RowKit Go.Deep

theorem info_u8 : (Try.prog.info? 5).map (fun i => (i.zero, i.size, i.bytes)) = some (some (.int .u8 0), 1, 1) := by kernel_rfl
theorem info_parts {t : TypeId} {z : Value} {s b : Nat} (h : (Try.prog.info? t).map (fun i => (i.zero, i.size, i.bytes)) = some (some z, s, b)) : ∃ i, Try.prog.info? t = some i ∧ i.zero = some z ∧ i.size = s ∧ i.bytes = b := by
  cases hi : Try.prog.info? t with
  | none => rw [hi] at h; cases h
  | some i =>
    rw [hi] at h
    simp only [Option.map_some, Option.some.injEq, Prod.mk.injEq] at h
    exact ⟨i, rfl, h.1, h.2.1, h.2.2⟩
theorem run_empty (w : World) : (Instr.buildSlice 39 0 #[]).run Try.prog w = .ok (.slice (some ⟨w.heap.size, 0, none⟩) 0 0) (w.alloc (.cells #[] 5)) := by kernel_rfl

/-- A row of bytes of the call's own: block g, not older than base. -/
def Own (w : World) (base g n c : Nat) (l : List UInt8) : Prop := w.ownsRow base 5 1 (.slice (some ⟨g, 0, none⟩) n c) n (bytesV l) ∧ l.length = n

theorem Own.start (w : World) : Own (w.alloc (.cells #[] 5)) w.heap.size w.heap.size 0 0 [] := ⟨⟨rfl, .inr ⟨_, 0, #[], rfl, Nat.le_refl _, heap_alloc_new w _, Nat.le_refl _, by unfold maxLen; omega, rfl, rfl⟩⟩, rfl⟩
theorem Own.start' (w : World) (g : Nat) (hg : g = w.heap.size) : Own (w.alloc (.cells #[] 5)) w.heap.size g 0 0 [] := by subst hg; exact Own.start w
theorem Own.ge {w : World} {base g n c : Nat} {l : List UInt8} (h : Own w base g n c l) : base ≤ g := by
  rcases h.1.2 with ⟨h', _⟩ | ⟨g', cap', cur, h', hb, _⟩
  · simp at h'
  · simp only [Value.slice.injEq, Option.some.injEq, Addr.mk.injEq, and_true, true_and] at h'
    rw [h'.1]; exact hb
theorem Own.bytes {w : World} {base g n c : Nat} {l : List UInt8} (h : Own w base g n c l) : BytesAt w (some ⟨g, 0, none⟩) l := by
  refine BytesAt.of_range fun i v hv => ?_
  have hi := (List.getElem?_eq_some_iff.1 hv).1
  rw [length_bytesV, h.2] at hi
  rw [Nat.zero_add, World.ownsRow.cellAt h.1 i (by omega), hv]
theorem Own.cell {w : World} {base g n c : Nat} {l : List UInt8} (h : Own w base g n c l) (i : Nat) (b : UInt8) (hi : l[i]? = some b) : w.cell? ⟨g, i, none⟩ = some (.int .u8 b.toNat) := by
  obtain ⟨g', o, e, hc⟩ := h.bytes i b hi
  cases e
  rw [Nat.zero_add] at hc
  exact hc
theorem Own.below {w w' : World} {base g n c B : Nat} {l : List UInt8} (h : Own w base g n c l) (hb : Below B w w') (hB : w.heap.size ≤ B) : Own w' base g n c l := by
  refine ⟨⟨h.1.1, ?_⟩, h.2⟩
  rcases h.1.2 with h0 | ⟨g', cap, cur, e, hb2, hgg, rest⟩
  · exact .inl h0
  · exact .inr ⟨g', cap, cur, e, hb2, (hb.block g' (Nat.lt_of_lt_of_le (Array.getElem?_eq_some_iff.1 hgg).1 hB)).trans hgg, rest⟩

theorem Own.lt {w : World} {base g n c : Nat} {l : List UInt8} (h : Own w base g n c l) : g < w.heap.size := by
  rcases h.1.2 with ⟨h', _⟩ | ⟨g', cap', cur, h', hb, hg, _⟩
  · simp at h'
  · simp only [Value.slice.injEq, Option.some.injEq, Addr.mk.injEq, and_true, true_and] at h'
    rw [h'.1]; exact (Array.getElem?_eq_some_iff.1 hg).1
theorem Own.le {w : World} {base g n c : Nat} {l : List UInt8} (h : Own w base g n c l) : n ≤ c := by
  rcases h.1.2 with ⟨h', _⟩ | ⟨g', cap', cur, h', _, _, hnc, _⟩
  · simp at h'
  · simp only [Value.slice.injEq, Option.some.injEq, Addr.mk.injEq, and_true, true_and] at h'
    rw [h'.2]; exact hnc
theorem Own.cap {w : World} {base g n c : Nat} {l : List UInt8} (h : Own w base g n c l) : c ≤ maxLen := by
  rcases h.1.2 with ⟨h', _⟩ | ⟨g', cap', cur, h', _, _, _, hm, _⟩
  · simp at h'
  · simp only [Value.slice.injEq, Option.some.injEq, Addr.mk.injEq, and_true, true_and] at h'
    rw [h'.2]; exact hm
theorem Own.stored {w : World} {base g n c : Nat} {l : List UInt8} (h : Own w base g n c l) (k : Nat) (x : UInt8) : Own (w.setCell ⟨g, k, none⟩ (.int .u8 x.toNat)) base g n c (l.set k x) := by
  refine ⟨?_, by rw [List.length_set, h.2]⟩
  have := (World.ownsRow.stored h.1 k (byteV x)).1
  have e : bytesV (l.set k x) = (bytesV l).set k (byteV x) := by simp [bytesV, List.map_set]
  rw [e]
  exact this

set_option maxRecDepth 100000 in
theorem run_append_bytes {w : World} {base g n c : Nat} {ys : List UInt8} (h : Own w base g n c ys) (A : Option Addr) (l : List UInt8) (cap : Nat) (hb : BytesAt w A l) (hn : n + l.length ≤ 140737488355328) (hbase : base ≤ w.heap.size) :
    ∃ g' c' w', (Builtin.append_ #[39, 39] 39 #[.slice (some ⟨g, 0, none⟩) n c, .slice A l.length cap]).run Try.prog w = .ok (.slice (some ⟨g', 0, none⟩) (n + l.length) c') w' ∧ Own w' base g' (n + l.length) c' (ys ++ l) ∧ w.grownBy w' (some g) ∧ (g' = g ∨ g' = w.heap.size) := by
  obtain ⟨i, hi, hz, hs, hby⟩ := info_parts info_u8
  match l, hb, hn with
  | [], _, _ =>
    refine ⟨g, c, w, ?_, by rw [List.append_nil]; exact h, ⟨rfl, rfl, rfl, Nat.le_refl _, fun _ _ _ => rfl⟩, .inl rfl⟩
    have hle : n ≤ c := by
      rcases h.1.2 with ⟨h', _⟩ | ⟨g', cap', cur, h', _, _, hnc, _⟩
      · simp at h'
      · simp only [Value.slice.injEq, Option.some.injEq, Addr.mk.injEq, and_true, true_and] at h'
        rw [h'.2]; exact hnc
    have h0 : ∀ a : Addr, (loadCells a 0).run Try.prog w = .ok #[] w := fun a => by
      have := run_loadCells_list (P := Try.prog) w a [] (fun j v hj => by simp at hj)
      simpa using this
    cases A <;> simp [h0, Builtin.append_, run_underlying Try.underlying39, sizeOf, typeInfo, hi, Builtin.lenOf, Builtin.firstCells, hle, storeCells]
  | b :: r, hb, hn =>
    obtain ⟨ga, oa, rfl, _⟩ := hb 0 b rfl
    obtain ⟨gg, cc, w', hap, hown, hgrow, hat, _⟩ := run_append_lies (P := Try.prog) w 39 39 base 5 i _ 1 1 Try.underlying39 hi hz hs hby (by rfl) (by omega) (.slice (some ⟨g, 0, none⟩) n c) n (bytesV ys) h.1 ⟨ga, oa, none⟩ (b :: r).length cap (bytesV (b :: r)) (by rw [length_bytesV, Nat.mul_one])
      (fun j u hu => by
        have hj := (List.getElem?_eq_some_iff.1 hu).1
        rw [length_bytesV] at hj
        obtain ⟨g2, o2, e2, hc⟩ := hb j _ (List.getElem?_eq_getElem hj)
        cases e2
        rw [Addr.add_mid, hc]
        simp only [bytesV, List.getElem?_map, List.getElem?_eq_getElem hj, Option.map_some] at hu
        exact hu) oneCell_bytesV (by simp) (by unfold maxLen; omega) (by omega) hbase _ rfl
    exact ⟨gg, cc, w', hap, ⟨by rw [bytesV_append]; exact hown, by rw [List.length_append, h.2]⟩, hgrow, hat.imp (fun e => by injection e with e; exact e.symm) id⟩

/-- An append whose outcome is known, for the walk. -/
theorem wpList_append_eq {P : Program} {w w' : World} {ops : Array Oper} {rest : List Oper} {o : Oper} {a : Act} {Q : Exit → Act → World → Prop} {v u r : Value} (hgd : o.guard = none) (s x : Operand) (t : TypeId)
    (ho : o.op = .call { callee := .builtin .append, args := #[s, x], argTypes := #[t, t] }) (hs : a.eval s = v) (hx : a.eval x = u) (hap : (Builtin.append_ #[t, t] o.type #[v, u]).run P w = .ok r w')
    (h : wpList P ops Q rest (a.put o.dst r) w') : wpList P ops Q (o :: rest) a w := by
  refine wpList_plain hgd fun K hK => ?_
  unfold Oper.wp
  simp [execOp, ho, resolve, invoke, builtin, hs, hx, hap, Result.andThen]
  exact hK _ _ h

/-- .. the one whose outcome goes to the slot d. -/
theorem wpList_append_to {P : Program} {w w' : World} {ops : Array Oper} {rest : List Oper} {a : Act} {Q : Exit → Act → World → Prop} {v u r : Value} {s x : Operand} {t ty : TypeId} {ps : String} {af : Array Edge} (d : Tmp) (hap : (Builtin.append_ #[t, t] ty #[v, u]).run P w = .ok r w')
    (hs : a.eval s = v) (hx : a.eval x = u) (h : wpList P ops Q rest (a.put (some d) r) w') :
    wpList P ops Q ({ dst := some d, op := .call { callee := .builtin .append, args := #[s, x], argTypes := #[t, t] }, type := ty, pos := ps, after := af, guard := none } :: rest) a w :=
  wpList_append_eq rfl s x t rfl hs hx hap h

theorem xor_u8 (b c : UInt8) : bits .xor .u8 (b.toNat : Int) (c.toNat : Int) = ((b ^^^ c).toNat : Int) := by
  rw [u8_xor_nat _ _ b.toNat_lt c.toNat_lt, UInt8.toNat_xor]

theorem Own.lit (w : World) (C : Array Value) (l : List UInt8) (k g : Nat) (hC : C.toList = bytesV l) (hk : k = l.length) (hg : g = w.heap.size) (hm : k ≤ maxLen) : Own (w.alloc (.cells C 5)) w.heap.size g k k l := by
  subst hg hk
  refine ⟨?_, rfl⟩
  have hsz : C.size = l.length := by rw [← Array.length_toList, hC, length_bytesV]
  have := World.ownsRow_lit (base := w.heap.size) (e := 5) (size := 1) w C l.length (Nat.le_refl _) hm (by rw [hsz, Nat.mul_one])
  rw [hC] at this
  exact this

theorem u8_slice_to {W : World} {A : Option Addr} {n cap k : Nat} (hk : k ≤ cap) (_hc : cap ≤ maxLen) : (Instr.sliceAt 39 (.slice A n cap) none (some (.int .i64 (k : Int))) none).run Try.prog W = .ok (.slice A k cap) W := by
  unfold maxLen at _hc
  have h1 : (k : Int) ≤ (cap : Int) := by omega
  have h0 : (0 : Int) ≤ (k : Int) := by omega
  go_simp
theorem u8_slice_from {W : World} {A : Option Addr} {n cap k : Nat} (hk : k ≤ n) (hn : n ≤ cap) (_hc : cap ≤ maxLen) : (Instr.sliceAt 39 (.slice A n cap) (some (.int .i64 (k : Int))) none none).run Try.prog W = .ok (.slice (if cap = k then A else A.map (·.add k)) (n - k) (cap - k)) W := by
  unfold maxLen at _hc
  have h1 : (k : Int) ≤ (n : Int) := by omega
  have h2 : (n : Int) ≤ (cap : Int) := by omega
  have h0 : (0 : Int) ≤ (k : Int) := by omega
  go_simp
theorem u8_slice_mid {W : World} {A : Option Addr} {n cap k m : Nat} (hk : k ≤ m) (hm : m ≤ cap) (hkc : k < cap) (_hc : cap ≤ maxLen) : (Instr.sliceAt 39 (.slice A n cap) (some (.int .i64 (k : Int))) (some (.int .i64 (m : Int))) none).run Try.prog W = .ok (.slice (A.map (·.add k)) (m - k) (cap - k)) W := by
  unfold maxLen at _hc
  have h1 : (k : Int) ≤ (m : Int) := by omega
  have h2 : (m : Int) ≤ (cap : Int) := by omega
  have h0 : (0 : Int) ≤ (k : Int) := by omega
  have h3 : ¬ cap = k := by omega
  go_simp


/-! ### the same, as laws for the walk -/
theorem Own.kept {w w' : World} {base g n c : Nat} {l : List UInt8} {row : Option Nat} (h : Own w base g n c l) (hg : w.grownBy w' row) (hne : some g ≠ row) : Own w' base g n c l :=
  ⟨World.ownsRow.kept h.1 hg (.inr hne), h.2⟩
theorem Own.alloc {w : World} {base g n c : Nat} {l : List UInt8} (h : Own w base g n c l) (o : Obj) : Own (w.alloc o) base g n c l := ⟨World.ownsRow.alloc h.1 o, h.2⟩
theorem BytesAt.kept {w w' : World} {A : Option Addr} {l : List UInt8} {row : Option Nat} (h : BytesAt w A l) (hg : w.grownBy w' row) (hne : ∀ a, A = some a → some a.block ≠ row) : BytesAt w' A l := by
  intro i b hi
  obtain ⟨g, o, rfl, hc⟩ := h i b hi
  exact ⟨g, o, rfl, World.grownBy.cell hg hc (hne ⟨g, o, Option.none⟩ rfl)⟩
theorem BytesAt.alloc {w : World} {A : Option Addr} {l : List UInt8} (h : BytesAt w A l) (o : Obj) : BytesAt (w.alloc o) A l := h.below ((Below.refl _ _).alloc (Nat.le_refl _) _)
theorem BytesAt.lit {w : World} {C : Array Value} {l : List UInt8} {fr : Nat × Nat} (h : C.toList = bytesV l) : BytesAt (w.alloc (.cells C 5 fr)) (some ⟨w.heap.size, 0, Option.none⟩) l := by
  refine BytesAt.of_range fun i v hv => ?_
  rw [World.cell?_alloc_mark, Nat.zero_add, ← hv, ← h]
  simp

theorem wpList_append_bytes {ops : Array Oper} {rest : List Oper} {a : Act} {Q : Exit → Act → World → Prop} {s x : Operand} {ps : String} {af : Array Edge} {w : World} {base g n c cap k : Nat} {ys l : List UInt8} {A : Option Addr} (d : Tmp) (hown : Own w base g n c ys) (hb : BytesAt w A l) (hk : k = l.length)
    (hs : a.eval s = .slice (some ⟨g, 0, none⟩) n c) (hx : a.eval x = .slice A k cap) (hn : n + k ≤ 140737488355328) (hbase : base ≤ w.heap.size)
    (h : ∀ g' c' w', Own w' base g' (n + k) c' (ys ++ l) → w.grownBy w' (some g) → (g' = g ∨ g' = w.heap.size) → wpList Try.prog ops Q rest (a.put (some d) (.slice (some ⟨g', 0, none⟩) (n + k) c')) w') :
    wpList Try.prog ops Q ({ dst := some d, op := .call { callee := .builtin .append, args := #[s, x], argTypes := #[39, 39] }, type := 39, pos := ps, after := af, guard := none } :: rest) a w := by
  subst hk
  obtain ⟨g', c', w', hap, h1, h2, h3⟩ := run_append_bytes hown A l cap hb hn hbase
  exact wpList_append_to d hap hs hx (h g' c' w' h1 h2 h3)

/-- .. bytes that were written out ahead of it. -/
theorem wpList_append_lits {ops : Array Oper} {rest : List Oper} {a : Act} {Q : Exit → Act → World → Prop} {s x : Operand} {ps : String} {af : Array Edge} {w : World} {base g n c k : Nat} {ys : List UInt8} {C : Array Value} (d : Tmp) (l : List UInt8) (hown : Own w base g n c ys)
    (hs : a.eval s = .slice (some ⟨g, 0, none⟩) n c) (hx : a.eval x = .slice (some ⟨w.heap.size, 0, none⟩) k k) (hC : C.toList = bytesV l) (hk : k = l.length) (hn : n + k ≤ 140737488355328) (hbase : base ≤ w.heap.size)
    (h : ∀ g' c' w', Own w' base g' (n + k) c' (ys ++ l) → (w.alloc (.cells C 5)).grownBy w' (some g) → (g' = g ∨ g' = w.heap.size + 1) → wpList Try.prog ops Q rest (a.put (some d) (.slice (some ⟨g', 0, none⟩) (n + k) c')) w') :
    wpList Try.prog ops Q ({ dst := some d, op := .call { callee := .builtin .append, args := #[s, x], argTypes := #[39, 39] }, type := 39, pos := ps, after := af, guard := none } :: rest) a (w.alloc (.cells C 5)) :=
  wpList_append_bytes d (hown.alloc _) (BytesAt.lit hC) hk hs hx hn (by simp; omega) (fun g' c' w' h1 h2 h3 => h g' c' w' h1 h2 (by simpa using h3))
end Go.Proofs.Ytpfdlcogldbocaa
