/-
  Rows of commands of the call's own. Condition: fewer than 2^30 of them.
-/
import Derived.Test.YtncbmdbfdjhkeaaSr
namespace Go.Proofs.Ytncbmdbfdjhkeaa
open Go.RowKit Go.Deep

def cxV (l : List CX) : List Value := l.flatMap CX.cells
theorem length_cxV (l : List CX) : (cxV l).length = l.length * 42 := flat_len CX.len l
theorem cxV_append (a b : List CX) : cxV (a ++ b) = cxV a ++ cxV b := by simp [cxV]
theorem oneCell_cx {c : CX} (h : c.tv.oneCell' = true) : ∀ v ∈ c.cells, v.oneCell' = true := by
  have h2 : c.cells.all (·.oneCell') = true := by
    obtain ⟨_, _, _, _, _, _, _, _, _, _, _, _, _, _, tv, _, _, _, _⟩ := c
    simp only [CX.cells, NV.cells, List.all_append, List.all_cons, List.all_nil, Bool.and_true, Bool.and_eq_true]
    simp only at h
    simp [Value.oneCell'] at h ⊢
    exact h
  exact fun v hv => List.all_eq_true.1 h2 v hv
theorem oneCell_cxV {l : List CX} (h : ∀ c ∈ l, c.tv.oneCell' = true) : ∀ v ∈ cxV l, v.oneCell' = true := by
  intro v hv
  obtain ⟨c, hc, hv⟩ := List.mem_flatMap.1 hv
  exact oneCell_cx (h c hc) v hv
set_option maxRecDepth 100000 in
theorem info_cmd : (Try.prog.info? 42).map (fun i => (i.zero, i.size, i.bytes)) = some (some (.agg (CX.zero 0 0).cells.toArray), 42, 424) := by kernel_rfl
theorem size_cmd : (Try.prog.info? 42).map (·.size) = some 42 := by kernel_rfl
/-- A row of commands of the call's own. -/
def OwnC (w : World) (B : Nat) (v : Value) (cs : List CX) : Prop := w.ownsRow B 42 42 v cs.length (cxV cs)
theorem OwnC.nil (w : World) (B : Nat) : OwnC w B (.slice none 0 0) [] := ⟨rfl, .inl ⟨rfl, rfl⟩⟩
theorem OwnC.raw {w : World} {B : Nat} {v : Value} {cs : List CX} (h : OwnC w B v cs) : ∃ A c, v = .slice A cs.length c ∧ RawAt w A (cxV cs) := by
  obtain ⟨A, c, h1, _, h2, _⟩ := own_form h
  exact ⟨A, c, h1, h2⟩
theorem OwnC.below {w W : World} {B : Nat} {v : Value} {cs : List CX} (h : OwnC w B v cs) (hb : Below w.heap.size w W) : OwnC W B v cs := ownsRow_turned h (Turned.of_below (S := fun _ => False) hb) (fun _ _ h => h)
theorem OwnC.turned {w W : World} {B : Nat} {v : Value} {cs : List CX} {S : Nat → Prop} (h : OwnC w B v cs) (ht : Turned S w W) (hn : ∀ k, v.ownBlock = some k → ¬ S k) : OwnC W B v cs := ownsRow_turned h ht hn
theorem run_append_cmd {w : World} {base : Nat} {v : Value} {cs : List CX} (hown : OwnC w base v cs) (A : Option Addr) (c : Nat) (u : CX) (hu : u.tv.oneCell' = true) (hat : RawAt w A (cxV [u])) (hn : cs.length + 1 ≤ 1073741824) (hbase : base ≤ w.heap.size) :
    ∃ v' w', (Builtin.append_ #[23, 23] 23 #[v, .slice A 1 c]).run Try.prog w = .ok v' w' ∧ OwnC w' base v' (cs ++ [u]) ∧ Turned (fun j => v.ownBlock = some j) w w' ∧ (∀ k, v'.ownBlock = some k → v.ownBlock = some k ∨ w.heap.size ≤ k) := by
  obtain ⟨i, hi, hz, hs, hb⟩ := info_parts info_cmd
  obtain ⟨g, o, rfl, hr⟩ : ∃ g o, A = some ⟨g, o, none⟩ ∧ w.rangeAt g o (cxV [u]) := by
    rcases hat with hat | hat
    · have := length_cxV [u]
      rw [hat] at this
      simp at this
    · exact hat
  obtain ⟨gg, cc, w', hap, hown', hgrow, hwh, _⟩ := run_append_lies (P := Try.prog) w 23 23 base 42 i _ 42 424 Try.underlying23 hi hz hs hb rfl (by omega) v cs.length (cxV cs) hown ⟨g, o, none⟩ 1 c (cxV [u]) (length_cxV [u])
    (fun j u hu => by rw [Addr.add_mid]; exact hr j u hu) (oneCell_cxV (fun c hc => by simp at hc; rw [hc]; exact hu)) (by omega) (by unfold maxLen; omega) (by omega) hbase _ rfl
  refine ⟨_, w', hap, ?_, Turned.of_grown (S := fun j => v.ownBlock = some j) hgrow (fun k hk => hk), fun k hk => ?_⟩
  · unfold OwnC
    rw [List.length_append, cxV_append]
    exact hown'
  · have e : some gg = some k := hk
    injection e with e
    subst e
    rcases hwh with hwh | hwh
    · exact .inl hwh
    · exact .inr (by rw [hwh]; exact Nat.le_refl _)
/-- .. for the walk. -/
theorem wpList_append_cmd {ops : Array Oper} {rest : List Oper} {a : Act} {Q : Exit → Act → World → Prop} {s x : Operand} {ps : String} {af : Array Edge} {w : World} {base : Nat} {v : Value} {cs : List CX} {A : Option Addr} {c : Nat} (d : Tmp) (u : CX) (hu : u.tv.oneCell' = true)
    (hown : OwnC w base v cs) (hat : RawAt w A (cxV [u])) (hs : a.eval s = v) (hx : a.eval x = .slice A 1 c) (hn : cs.length + 1 ≤ 1073741824) (hbase : base ≤ w.heap.size)
    (h : ∀ v' w', OwnC w' base v' (cs ++ [u]) → Turned (fun j => v.ownBlock = some j) w w' → (∀ k, v'.ownBlock = some k → v.ownBlock = some k ∨ w.heap.size ≤ k) → wpList Try.prog ops Q rest (a.put (some d) v') w') :
    wpList Try.prog ops Q ({ dst := some d, op := .call { callee := .builtin .append, args := #[s, x], argTypes := #[23, 23] }, type := 23, pos := ps, after := af, guard := none } :: rest) a w := by
  obtain ⟨v', w', hap, hown', ht, hk⟩ := run_append_cmd hown A c u hu hat hn hbase
  exact wpList_append_to d hap hs hx (h v' w' hown' ht hk)
theorem lit_one (c : CX) (w : World) : (Instr.buildSlice 23 1 #[(0, .agg c.cells.toArray)]).run Try.prog w = .ok (.slice (some ⟨w.heap.size, 0, none⟩) 1 1) (w.alloc (.cells (cxV [c]).toArray 42)) := by kernel_rfl
theorem wpList_lit_one {ops : Array Oper} {rest : List Oper} {o : Oper} {a : Act} {w : World} {Q : Exit → Act → World → Prop} (hg : o.guard = none) (x : Operand) (ho : o.op = .buildSlice 23 1 #[(0, x)]) {c : CX} (hx : a.eval x = .agg c.cells.toArray)
    (h : ∀ W g, g = w.heap.size → RawAt W (some ⟨g, 0, none⟩) (cxV [c]) → Below w.heap.size w W → wpList Try.prog ops Q rest (a.put o.dst (.slice (some ⟨g, 0, none⟩) 1 1)) W) : wpList Try.prog ops Q (o :: rest) a w := by
  refine wpList_plain hg fun K hK => ?_
  unfold Oper.wp execOp
  have hp : (#[(0, x)] : Array (Nat × Operand)).map (fun (i, x) => (i, a.eval x)) = #[(0, .agg c.cells.toArray)] := by simp [hx]
  simp only [ho, hp, Sem.run_bind, lit_one, Result.andThen_ok, Sem.run_pure]
  exact hK _ _ (h _ _ rfl (raw_new w (cxV [c]) _) (bW w _))
theorem built_zero (re im : Nat) : Try.prog.built 42 [(0, .complex .f64 re im)] = some (CX.zero re im).cells.toArray := by kernel_rfl
theorem wpList_build_zero {ops : Array Oper} {rest : List Oper} {o : Oper} {a : Act} {w : World} {Q : Exit → Act → World → Prop} (hgd : o.guard = none) (x : Operand) (ho : o.op = .build 42 #[(0, x)]) {re im : Nat} (hx : a.eval x = .complex .f64 re im) (h : wpList Try.prog ops Q rest (a.put o.dst (.agg (CX.zero re im).cells.toArray)) w) : wpList Try.prog ops Q (o :: rest) a w := by
  have hb : Try.prog.built 42 ((#[(0, x)] : Array (Nat × Operand)).map fun (i, x) => (i, a.eval x)).toList = some (CX.zero re im).cells.toArray := by
    simp only [List.map_toArray, List.map_cons, List.map_nil, hx]
    exact built_zero re im
  refine wpList_plain hgd fun K hK => wp_build 42 _ ho (by rw [hb]; rfl) ?_
  rw [hb]
  exact hK _ _ h
theorem wpList_alloc_cm {ops : Array Oper} {rest : List Oper} {o : Oper} {a : Act} {w : World} {Q : Exit → Act → World → Prop} (hgd : o.guard = none) (ho : o.op = .alloc 42)
    (h : ∀ Z : Array Value, Z.size = 42 → wpList Try.prog ops Q rest (a.put o.dst (.pointer (some ⟨w.heap.size, 0, none⟩))) (w.alloc (.cells Z 42))) : wpList Try.prog ops Q (o :: rest) a w := by
  obtain ⟨i, hi, hz, hs, hb⟩ := info_parts info_cmd
  refine wpList_plain hgd fun K hK => ?_
  unfold Oper.wp execOp
  have hzv : (zeroValue 42).run Try.prog w = .ok (.agg (CX.zero 0 0).cells.toArray) w := by
    simp [zeroValue, typeInfo, hi, hz]
  simp only [ho, Sem.run_bind, Instr.alloc, hzv, newVar, newRow, run_newObj_alloc, Sem.run_pure, Result.andThen_ok]
  exact hK _ _ (h _ rfl)
theorem wpList_put_cm {ops : Array Oper} {rest : List Oper} {o : Oper} {a : Act} {w : World} {Q : Exit → Act → World → Prop} (hgd : o.guard = none) (x y : Operand) (ho : o.op = .store 42 x y) {c : CX} (hu : c.tv.oneCell' = true)
    (hx : a.eval x = .pointer (some ⟨w.heap.size, 0, none⟩)) (hy : a.eval y = .agg c.cells.toArray) {Z : Array Value} (hZ : Z.size = 42)
    (h : ∀ W, Cm c w.heap.size W → Below w.heap.size w W → wpList Try.prog ops Q rest (a.put o.dst undef) W) :
    wpList Try.prog ops Q (o :: rest) a (w.alloc (.cells Z 42)) := by
  refine wpList_store_row hgd 42 x y ho w.heap.size c.cells.toArray hx hy 42 _ (heap_alloc_new w _) size_cmd hZ (all_oneCell_toArray (oneCell_cx hu)) ?_
  rw [World.setRow_alloc_new]
  exact h _ (heap_alloc_new w _) (bW w _)
end Go.Proofs.Ytncbmdbfdjhkeaa
