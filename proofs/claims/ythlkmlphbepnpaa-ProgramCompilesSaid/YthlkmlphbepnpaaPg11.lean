/-
  Rows of commands of the call's own: written out, put one behind the other. Condition: fewer than 2^30 of them.
-/
import Derived.Test.YthlkmlphbepnpaaPg10
import Derived.Great.BuildSlice
namespace Go.Proofs.Ythlkmlphbepnpaa
open Go.RowKit Go.Deep

/-- A row of commands of the call's own. -/
def OwnC (w : World) (B : Nat) (v : Value) (cs : List CM) : Prop := w.ownsRow B 51 42 v cs.length (cmV cs)
theorem OwnC.nil (w : World) (B : Nat) : OwnC w B (.slice none 0 0) [] := ⟨rfl, .inl ⟨rfl, rfl⟩⟩
theorem OwnC.raw {w : World} {B : Nat} {v : Value} {cs : List CM} (h : OwnC w B v cs) : ∃ A c, v = .slice A cs.length c ∧ RawAt w A (cmV cs) := by
  obtain ⟨A, c, h1, _, h2, _⟩ := own_form h
  exact ⟨A, c, h1, h2⟩
theorem OwnC.below {w W : World} {B : Nat} {v : Value} {cs : List CM} (h : OwnC w B v cs) (hb : Below w.heap.size w W) : OwnC W B v cs := ownsRow_turned h (Turned.of_below (S := fun _ => False) hb) (fun _ _ h => h)
theorem run_append_cmd {w : World} {base : Nat} {v : Value} {cs : List CM} (hown : OwnC w base v cs) (A : Option Addr) (c : Nat) (us : List CM) (hat : RawAt w A (cmV us)) (hn : cs.length + us.length ≤ 1073741824) (hbase : base ≤ w.heap.size) :
    ∃ v' w', (Builtin.append_ #[23, 23] 23 #[v, .slice A us.length c]).run Try.prog w = .ok v' w' ∧ OwnC w' base v' (cs ++ us) ∧ Turned (fun j => v.ownBlock = some j) w w' ∧ (∀ k, v'.ownBlock = some k → v.ownBlock = some k ∨ w.heap.size ≤ k) := by
  obtain ⟨i, hi, hz, hs, hb⟩ := info_parts info_cmd
  by_cases h0 : us = []
  · subst h0
    obtain ⟨B, c', rfl, hle, _, _⟩ := own_form hown
    refine ⟨_, w, ?_, by rw [List.append_nil]; exact hown, Turned.refl _ w, fun k hk => .inl hk⟩
    have h0 : ∀ a : Addr, (loadCells a 0).run Try.prog w = .ok #[] w := fun a => by
      have := run_loadCells_list (P := Try.prog) w a [] (fun j v hj => by simp at hj)
      simpa using this
    cases A <;> cases B <;> simp [h0, Builtin.append_, run_underlying Try.underlying23, sizeOf, typeInfo, hi, Builtin.lenOf, Builtin.firstCells, hle, storeCells]
  · have hpos : 0 < us.length := by
      cases us with
      | nil => exact absurd rfl h0
      | cons => simp
    obtain ⟨g, o, rfl, hr⟩ : ∃ g o, A = some ⟨g, o, none⟩ ∧ w.rangeAt g o (cmV us) := by
      rcases hat with hat | hat
      · have := length_cmV us
        rw [hat] at this
        simp only [List.length_nil] at this
        omega
      · exact hat
    obtain ⟨gg, cc, w', hap, hown', hgrow, hwh, _⟩ := run_append_lies (P := Try.prog) w 23 23 base 51 i _ 42 424 Try.underlying23 hi hz hs hb rfl (by omega) v cs.length (cmV cs) hown ⟨g, o, none⟩ us.length c (cmV us) (length_cmV us)
      (fun j u hu => by rw [Addr.add_mid]; exact hr j u hu) oneCell_cmV hpos (by unfold maxLen; omega) (by omega) hbase _ rfl
    refine ⟨_, w', hap, ?_, Turned.of_grown (S := fun j => v.ownBlock = some j) hgrow (fun k hk => hk), fun k hk => ?_⟩
    · unfold OwnC
      rw [List.length_append, cmV_append]
      exact hown'
    · have e : some gg = some k := hk
      injection e with e
      subst e
      rcases hwh with hwh | hwh
      · exact .inl hwh
      · exact .inr (by rw [hwh]; exact Nat.le_refl _)
/-- .. for the walk. -/
theorem wpList_append_cmd {ops : Array Oper} {rest : List Oper} {a : Act} {Q : Exit → Act → World → Prop} {s x : Operand} {ps : String} {af : Array Edge} {w : World} {base : Nat} {v : Value} {cs : List CM} {A : Option Addr} {c n : Nat} (d : Tmp) (us : List CM)
    (hown : OwnC w base v cs) (hat : RawAt w A (cmV us)) (hnu : n = us.length) (hs : a.eval s = v) (hx : a.eval x = .slice A n c) (hn : cs.length + us.length ≤ 1073741824) (hbase : base ≤ w.heap.size)
    (h : ∀ v' w', OwnC w' base v' (cs ++ us) → Turned (fun j => v.ownBlock = some j) w w' → (∀ k, v'.ownBlock = some k → v.ownBlock = some k ∨ w.heap.size ≤ k) → wpList Try.prog ops Q rest (a.put (some d) v') w') :
    wpList Try.prog ops Q ({ dst := some d, op := .call { callee := .builtin .append, args := #[s, x], argTypes := #[23, 23] }, type := 23, pos := ps, after := af, guard := none } :: rest) a w := by
  subst hnu
  obtain ⟨v', w', hap, hown', ht, hk⟩ := run_append_cmd hown A c us hat hn hbase
  exact wpList_append_to d hap hs hx (h v' w' hown' ht hk)
/-! ### commands written out -/
def nameC (n : Int) : CM := ⟨0, 0, n, ⟨#[]⟩, ⟨#[]⟩⟩
theorem built_n (n : Int) : Try.prog.built 51 [(1, .int .u8 n)] = some (nameC n).cells.toArray := by kernel_rfl
theorem built_np (n : Int) (re im : Nat) : Try.prog.built 51 [(1, .int .u8 n), (0, .complex .f64 re im)] = some (CM.cells ⟨re, im, n, ⟨#[]⟩, ⟨#[]⟩⟩).toArray := by kernel_rfl
theorem built_all (n : Int) (t f : ByteArray) (re im : Nat) : Try.prog.built 51 [(1, .int .u8 n), (5, .string t), (13, .string f), (0, .complex .f64 re im)] = some (CM.cells ⟨re, im, n, t, f⟩).toArray := by kernel_rfl
theorem wpList_build_cmd {ops : Array Oper} {rest : List Oper} {o : Oper} {a : Act} {w : World} {Q : Exit → Act → World → Prop} (hg : o.guard = none) (parts : Array (Nat × Operand)) (ho : o.op = .build 51 parts) {c : CM}
    (hb : Try.prog.built 51 (parts.map fun (i, x) => (i, a.eval x)).toList = some c.cells.toArray) (h : wpList Try.prog ops Q rest (a.put o.dst c.v) w) : wpList Try.prog ops Q (o :: rest) a w :=
  wpList_buildTo hg _ parts ho o.dst rfl _ hb h
theorem wpList_build_n {ops : Array Oper} {rest : List Oper} {o : Oper} {a : Act} {w : World} {Q : Exit → Act → World → Prop} (hg : o.guard = none) (x : Operand) (ho : o.op = .build 51 #[(1, x)]) {n : Int} (hx : a.eval x = .int .u8 n)
    (h : wpList Try.prog ops Q rest (a.put o.dst (nameC n).v) w) : wpList Try.prog ops Q (o :: rest) a w :=
  wpList_build_cmd hg _ ho (by simp only [List.map_toArray, List.map_cons, List.map_nil, hx]; exact built_n n) h
theorem wpList_build_np {ops : Array Oper} {rest : List Oper} {o : Oper} {a : Act} {w : World} {Q : Exit → Act → World → Prop} (hg : o.guard = none) (x y : Operand) (ho : o.op = .build 51 #[(1, x), (0, y)]) {n : Int} {re im : Nat} (hx : a.eval x = .int .u8 n) (hy : a.eval y = .complex .f64 re im)
    (h : wpList Try.prog ops Q rest (a.put o.dst (CM.v ⟨re, im, n, ⟨#[]⟩, ⟨#[]⟩⟩)) w) : wpList Try.prog ops Q (o :: rest) a w :=
  wpList_build_cmd hg _ ho (by simp only [List.map_toArray, List.map_cons, List.map_nil, hx, hy]; exact built_np n re im) h
theorem wpList_build_all {ops : Array Oper} {rest : List Oper} {o : Oper} {a : Act} {w : World} {Q : Exit → Act → World → Prop} (hg : o.guard = none) (x y z u : Operand) (ho : o.op = .build 51 #[(1, x), (5, y), (13, z), (0, u)]) {n : Int} {re im : Nat} {t f : ByteArray} (hx : a.eval x = .int .u8 n) (hy : a.eval y = .string t) (hz : a.eval z = .string f) (hu : a.eval u = .complex .f64 re im)
    (h : wpList Try.prog ops Q rest (a.put o.dst (CM.v ⟨re, im, n, t, f⟩)) w) : wpList Try.prog ops Q (o :: rest) a w :=
  wpList_build_cmd hg _ ho (by simp only [List.map_toArray, List.map_cons, List.map_nil, hx, hy, hz, hu]; exact built_all n t f re im) h
theorem lit_one (c : CM) (w : World) : (Instr.buildSlice 23 1 #[(0, c.v)]).run Try.prog w = .ok (.slice (some ⟨w.heap.size, 0, none⟩) 1 1) (w.alloc (.cells (cmV [c]).toArray 51)) := by kernel_rfl
theorem lit_three (c d e : CM) (w : World) : (Instr.buildSlice 23 3 #[(0, c.v), (1, d.v), (2, e.v)]).run Try.prog w = .ok (.slice (some ⟨w.heap.size, 0, none⟩) 3 3) (w.alloc (.cells (cmV [c, d, e]).toArray 51)) := by kernel_rfl
theorem own_lit (w : World) (cs : List CM) (h : cs.length ≤ 1073741824) : OwnC (w.alloc (.cells (cmV cs).toArray 51)) w.heap.size (.slice (some ⟨w.heap.size, 0, none⟩) cs.length cs.length) cs := by
  have := World.ownsRow_lit (base := w.heap.size) w (cmV cs).toArray cs.length (size := 42) (e := 51) (Nat.le_refl _) (by unfold maxLen; omega) (by simp [length_cmV])
  unfold OwnC
  simpa using this
theorem wpList_lit_one {ops : Array Oper} {rest : List Oper} {o : Oper} {a : Act} {w : World} {Q : Exit → Act → World → Prop} (hg : o.guard = none) (x : Operand) (ho : o.op = .buildSlice 23 1 #[(0, x)]) {c : CM} (hx : a.eval x = c.v)
    (h : ∀ W g, g = w.heap.size → OwnC W w.heap.size (.slice (some ⟨g, 0, none⟩) 1 1) [c] → Below w.heap.size w W → wpList Try.prog ops Q rest (a.put o.dst (.slice (some ⟨g, 0, none⟩) 1 1)) W) : wpList Try.prog ops Q (o :: rest) a w := by
  refine wpList_plain hg fun K hK => ?_
  unfold Oper.wp execOp
  have hp : (#[(0, x)] : Array (Nat × Operand)).map (fun (i, x) => (i, a.eval x)) = #[(0, c.v)] := by simp [hx]
  simp only [ho, hp, Sem.run_bind, lit_one, Result.andThen_ok, Sem.run_pure]
  exact hK _ _ (h _ _ rfl (own_lit w [c] (by simp)) (bW w _))
theorem wpList_lit_three {ops : Array Oper} {rest : List Oper} {o : Oper} {a : Act} {w : World} {Q : Exit → Act → World → Prop} (hg : o.guard = none) (x y z : Operand) (ho : o.op = .buildSlice 23 3 #[(0, x), (1, y), (2, z)]) {c d e : CM} (hx : a.eval x = c.v) (hy : a.eval y = d.v) (hz : a.eval z = e.v)
    (h : ∀ W g, g = w.heap.size → OwnC W w.heap.size (.slice (some ⟨g, 0, none⟩) 3 3) [c, d, e] → Below w.heap.size w W → wpList Try.prog ops Q rest (a.put o.dst (.slice (some ⟨g, 0, none⟩) 3 3)) W) : wpList Try.prog ops Q (o :: rest) a w := by
  refine wpList_plain hg fun K hK => ?_
  unfold Oper.wp execOp
  have hp : (#[(0, x), (1, y), (2, z)] : Array (Nat × Operand)).map (fun (i, x) => (i, a.eval x)) = #[(0, c.v), (1, d.v), (2, e.v)] := by simp [hx, hy, hz]
  simp only [ho, hp, Sem.run_bind, lit_three, Result.andThen_ok, Sem.run_pure]
  exact hK _ _ (h _ _ rfl (own_lit w [c, d, e] (by simp)) (bW w _))
end Go.Proofs.Ythlkmlphbepnpaa
