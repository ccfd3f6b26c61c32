/-
  Rows of instructions of the call's own; what a jump is, by the document. Condition: fewer than 2^30 of them.
-/
import Derived.Test.YthlkmlphbepnpaaPg11
import Derived.Test.YthlkmlphbepnpaaPg24
namespace Go.Proofs.Ythlkmlphbepnpaa
open Go.RowKit Go.Deep

/-- The jump of the i-th command, by the document. -/
def JOk (l : List CM) (i : Nat) (j : Int) : Prop :=
  (cN l i = 123 → ∃ b, b < l.length ∧ Closes (cN l) i b ∧ j = (b : Int)) ∧
  ((cN l i = 98 ∨ cN l i = 116) → cT l i = ⟨#[]⟩ → j = (l.length : Int)) ∧
  ((cN l i = 98 ∨ cN l i = 116) → cT l i ≠ ⟨#[]⟩ → ∃ k, k < l.length ∧ cN l k = 58 ∧ cT l k = cT l i ∧ j = (k : Int)) ∧
  (cN l i ≠ 123 → cN l i ≠ 98 → cN l i ≠ 116 → j = 0)
theorem dis_one {N : Nat → Int} {T : Nat → ByteArray} {n : Nat} (h : Dis N T n) {a b : Nat} (ha : a < n) (hb : b < n) (na : N a = 58) (nb : N b = 58) (ht : T a = T b) : a = b := by
  rcases Nat.lt_trichotomy a b with h1 | h1 | h1
  · exact absurd ht (h b hb nb a h1 na)
  · exact h1
  · exact absurd ht.symm (h a ha na b h1 nb)
theorem jok_one {l : List CM} {J : Nat → Int} (hJ : Jumps (cN l) (cT l) l.length J) {i : Nat} (hi : i < l.length) {j : Int} (h : JOk l i j) : J i = j := by
  obtain ⟨h1, h2, h3, h4⟩ := h
  by_cases e1 : cN l i = 123
  · obtain ⟨b, hb, hc, rfl⟩ := h1 e1
    exact hJ.brace i b hb hc
  by_cases e2 : cN l i = 98 ∨ cN l i = 116
  · by_cases e3 : cT l i = ⟨#[]⟩
    · rw [h2 e2 e3, hJ.top i hi e2 e3]
    · obtain ⟨k, hk, nk, tk, rfl⟩ := h3 e2 e3
      obtain ⟨k', hk', nk', tk', he⟩ := hJ.label i hi e2 e3
      rw [he, dis_one hJ.dis hk' hk nk' nk (tk'.trans tk.symm)]
  · rw [h4 e1 (fun e => e2 (.inl e)) (fun e => e2 (.inr e)), hJ.other i e1 (fun e => e2 (.inl e)) (fun e => e2 (.inr e))]
theorem ims_congr {l : List CM} {J K : Nat → Int} {m : Nat} (h : ∀ i, i < m → J i = K i) : ims l J m = ims l K m := by
  unfold ims
  refine List.map_congr_left fun i hi => ?_
  simp only [imAt, h i (List.mem_range.1 hi)]
/-- What CB answers is one answer. -/
theorem CB.none_ok {N : Nat → Int} {n : Nat} (h : CB N n none) : stk N n = some [] := by
  cases h with
  | ok h => exact h
theorem CB.det {N : Nat → Int} {n : Nat} {a b : Option Nat} (ha : CB N n a) (hb : CB N n b) : a = b := by
  cases ha with
  | bad i hi h1 h2 =>
    have gone : stk N (i + 1) = none := by simp [stk, h1, h2]
    have none_at : ∀ {s}, stk N n = some s → False := fun hs => by
      obtain ⟨t, ht⟩ := stk_back hs (i + 1) (by omega)
      rw [gone] at ht
      cases ht
    cases hb with
    | bad k hk h3 h4 =>
      rcases Nat.lt_trichotomy i k with h | h | h
      · obtain ⟨t, ht⟩ := stk_back h4 (i + 1) (by omega)
        rw [gone] at ht
        cases ht
      · rw [h]
      · obtain ⟨t, ht⟩ := stk_back h2 (k + 1) (by omega)
        rw [show stk N (k + 1) = none by simp [stk, h3, h4]] at ht
        cases ht
    | left b t h3 => exact (none_at h3).elim
    | ok h3 => exact (none_at h3).elim
  | left i t h1 =>
    cases hb with
    | bad k hk h3 h4 =>
      obtain ⟨u, hu⟩ := stk_back h1 (k + 1) (by omega)
      rw [show stk N (k + 1) = none by simp [stk, h3, h4]] at hu
      cases hu
    | left b t h3 =>
      rw [h1] at h3
      injection h3 with h3
      injection h3 with h3
      rw [h3]
    | ok h3 =>
      rw [h1] at h3
      injection h3 with h3
      cases h3
  | ok h1 =>
    cases hb with
    | bad k hk h3 h4 =>
      obtain ⟨u, hu⟩ := stk_back h1 (k + 1) (by omega)
      rw [show stk N (k + 1) = none by simp [stk, h3, h4]] at hu
      cases hu
    | left b t h3 =>
      rw [h1] at h3
      injection h3 with h3
      cases h3
    | ok h3 => rfl
/-- .. and LB's. -/
theorem LB.det {N : Nat → Int} {T : Nat → ByteArray} {n : Nat} {a b : Option Nat} (ha : LB N T n a) (hb : LB N T n b) : a = b := by
  cases ha with
  | twice i k hi h1 hk h2 h3 h4 =>
    cases hb with
    | twice i' k' hi' h1' hk' h2' h3' h4' =>
      rcases Nat.lt_trichotomy i i' with h | h | h
      · exact absurd h3 (h4' i h h1 k hk h2)
      · rw [h]
      · exact absurd h3' (h4 i' h h1' k' hk' h2')
    | gone i' d => exact absurd h3 (d i hi h1 k hk h2)
    | ok d => exact absurd h3 (d i hi h1 k hk h2)
  | gone i d hi hn ht hg hall =>
    cases hb with
    | twice i' k' hi' h1' hk' h2' h3' h4' => exact absurd h3' (d i' hi' h1' k' hk' h2')
    | gone i' d' hi' hn' ht' hg' hall' =>
      rcases Nat.lt_trichotomy i i' with h | h | h
      · obtain ⟨k, hk, nk, tk⟩ := hall' i h hn ht
        exact absurd tk (hg k hk nk)
      · rw [h]
      · obtain ⟨k, hk, nk, tk⟩ := hall i' h hn' ht'
        exact absurd tk (hg' k hk nk)
    | ok d' hall' =>
      obtain ⟨k, hk, nk, tk⟩ := hall' i hi hn ht
      exact absurd tk (hg k hk nk)
  | ok d hall =>
    cases hb with
    | twice i' k' hi' h1' hk' h2' h3' h4' => exact absurd h3' (d i' hi' h1' k' hk' h2')
    | gone i' d' hi' hn' ht' hg' hall' =>
      obtain ⟨k, hk, nk, tk⟩ := hall i' hi' hn' ht'
      exact absurd tk (hg' k hk nk)
    | ok d' hall' => rfl

/-! ### rows of instructions -/
theorem oneCell_im (x : IM) : ∀ v ∈ IM.cells x, v.oneCell' = true := fun v hv => by
  rcases List.mem_append.1 hv with hv | hv
  · exact oneCell_cm x.1 v hv
  · simp only [List.mem_singleton] at hv
    subst hv
    rfl
theorem oneCell_imV {l : List IM} : ∀ v ∈ imV l, v.oneCell' = true := by
  intro v hv
  obtain ⟨c, _, hv⟩ := List.mem_flatMap.1 hv
  exact oneCell_im c v hv
/-- A row of instructions of the call's own. -/
def OwnI (w : World) (B : Nat) (v : Value) (cs : List IM) : Prop := w.ownsRow B 53 43 v cs.length (imV cs)
theorem OwnI.nil (w : World) (B : Nat) : OwnI w B (.slice none 0 0) [] := ⟨rfl, .inl ⟨rfl, rfl⟩⟩
theorem OwnI.raw {w : World} {B : Nat} {v : Value} {cs : List IM} (h : OwnI w B v cs) : ∃ A c, v = .slice A cs.length c ∧ RawAt w A (imV cs) := by
  obtain ⟨A, c, h1, _, h2, _⟩ := own_form h
  exact ⟨A, c, h1, h2⟩
theorem OwnI.below {w W : World} {B : Nat} {v : Value} {cs : List IM} (h : OwnI w B v cs) (hb : Below w.heap.size w W) : OwnI W B v cs := ownsRow_turned h (Turned.of_below (S := fun _ => False) hb) (fun _ _ h => h)
theorem run_append_ins {w : World} {base : Nat} {v : Value} {cs : List IM} (hown : OwnI w base v cs) (g : Nat) (x : IM) (hat : w.rangeAt g 0 (IM.cells x)) (hn : cs.length + 1 ≤ 1073741824) (hbase : base ≤ w.heap.size) :
    ∃ v' w', (Builtin.append_ #[27, 27] 27 #[v, .slice (some ⟨g, 0, none⟩) 1 1]).run Try.prog w = .ok v' w' ∧ OwnI w' base v' (cs ++ [x]) ∧ Turned (fun j => v.ownBlock = some j) w w' ∧ (∀ k, v'.ownBlock = some k → v.ownBlock = some k ∨ w.heap.size ≤ k) := by
  obtain ⟨i, hi, hz, hs, hb⟩ := info_parts info_ins
  obtain ⟨gg, cc, w', hap, hown', hgrow, hwh, _⟩ := run_append_lies (P := Try.prog) w 27 27 base 53 i _ 43 432 Try.underlying27 hi hz hs hb rfl (by omega) v cs.length (imV cs) hown ⟨g, 0, none⟩ 1 1 (IM.cells x) rfl
    (fun j u hu => by rw [Addr.add_mid]; exact hat j u hu) (oneCell_im x) (by omega) (by unfold maxLen; omega) (by omega) hbase _ rfl
  refine ⟨_, w', hap, ?_, Turned.of_grown (S := fun j => v.ownBlock = some j) hgrow (fun k hk => hk), fun k hk => ?_⟩
  · unfold OwnI
    rw [List.length_append, show imV (cs ++ [x]) = imV cs ++ IM.cells x by simp [imV]]
    exact hown'
  · have e : some gg = some k := hk
    injection e with e
    subst e
    rcases hwh with hwh | hwh
    · exact .inl hwh
    · exact .inr (by rw [hwh]; exact Nat.le_refl _)
/-- .. for the walk. -/
theorem wpList_append_ins {ops : Array Oper} {rest : List Oper} {a : Act} {Q : Exit → Act → World → Prop} {s x : Operand} {ps : String} {af : Array Edge} {w : World} {base : Nat} {v : Value} {cs : List IM} {g : Nat} (d : Tmp) (u : IM)
    (hown : OwnI w base v cs) (hat : w.rangeAt g 0 (IM.cells u)) (hs : a.eval s = v) (hx : a.eval x = .slice (some ⟨g, 0, none⟩) 1 1) (hn : cs.length + 1 ≤ 1073741824) (hbase : base ≤ w.heap.size)
    (h : ∀ v' w', OwnI w' base v' (cs ++ [u]) → Turned (fun j => v.ownBlock = some j) w w' → (∀ k, v'.ownBlock = some k → v.ownBlock = some k ∨ w.heap.size ≤ k) → wpList Try.prog ops Q rest (a.put (some d) v') w') :
    wpList Try.prog ops Q ({ dst := some d, op := .call { callee := .builtin .append, args := #[s, x], argTypes := #[27, 27] }, type := 27, pos := ps, after := af, guard := none } :: rest) a w := by
  obtain ⟨v', w', hap, hown', ht, hk⟩ := run_append_ins hown g u hat hn hbase
  exact wpList_append_to d hap hs hx (h v' w' hown' ht hk)
def IM.v (x : IM) : Value := .agg (IM.cells x).toArray
theorem lit_ins (x : IM) (w : World) : (Instr.buildSlice 27 1 #[(0, x.v)]).run Try.prog w = .ok (.slice (some ⟨w.heap.size, 0, none⟩) 1 1) (w.alloc (.cells (IM.cells x).toArray 53)) := by kernel_rfl
theorem wpList_lit_ins {ops : Array Oper} {rest : List Oper} {o : Oper} {a : Act} {w : World} {Q : Exit → Act → World → Prop} (hg : o.guard = none) (x : Operand) (ho : o.op = .buildSlice 27 1 #[(0, x)]) {c : IM} (hx : a.eval x = c.v)
    (h : ∀ W g, g = w.heap.size → W.rangeAt g 0 (IM.cells c) → Below w.heap.size w W → w.heap.size < W.heap.size → wpList Try.prog ops Q rest (a.put o.dst (.slice (some ⟨g, 0, none⟩) 1 1)) W) : wpList Try.prog ops Q (o :: rest) a w := by
  refine wpList_plain hg fun K hK => ?_
  unfold Oper.wp execOp
  have hp : (#[(0, x)] : Array (Nat × Operand)).map (fun (i, x) => (i, a.eval x)) = #[(0, c.v)] := by simp [hx]
  simp only [ho, hp, Sem.run_bind, lit_ins, Result.andThen_ok, Sem.run_pure]
  refine hK _ _ (h _ _ rfl (fun j v hv => ?_) (bW w _) (by rw [World.size_alloc]; omega))
  rw [Nat.zero_add, obj_cell (heap_alloc_new w _)]
  simpa using hv
theorem built_ins0 (c : CM) : Try.prog.built 53 [(0, c.v)] = some (IM.cells (c, 0)).toArray := by kernel_rfl
theorem wpList_build_ins0 {ops : Array Oper} {rest : List Oper} {o : Oper} {a : Act} {w : World} {Q : Exit → Act → World → Prop} (hg : o.guard = none) (x : Operand) (ho : o.op = .build 53 #[(0, x)]) {c : CM} (hx : a.eval x = c.v)
    (h : wpList Try.prog ops Q rest (a.put o.dst (IM.v (c, 0))) w) : wpList Try.prog ops Q (o :: rest) a w :=
  wpList_buildTo hg _ _ ho o.dst rfl _ (by simp only [List.map_toArray, List.map_cons, List.map_nil, hx]; exact built_ins0 c) h
theorem wpList_alloc_ins {ops : Array Oper} {rest : List Oper} {o : Oper} {a : Act} {w : World} {Q : Exit → Act → World → Prop} (hgd : o.guard = none) (ho : o.op = .alloc 53)
    (h : ∀ Z : Array Value, Z.size = 43 → wpList Try.prog ops Q rest (a.put o.dst (.pointer (some ⟨w.heap.size, 0, none⟩))) (w.alloc (.cells Z 53))) : wpList Try.prog ops Q (o :: rest) a w := by
  obtain ⟨i, hi, hz, hs, hb⟩ := info_parts info_ins
  refine wpList_plain hgd fun K hK => ?_
  unfold Oper.wp execOp
  have hzv : (zeroValue 53).run Try.prog w = .ok (.agg (IM.cells (⟨0, 0, 0, ⟨#[]⟩, ⟨#[]⟩⟩, 0)).toArray) w := by
    simp [zeroValue, typeInfo, hi, hz]
  simp only [ho, Sem.run_bind, Instr.alloc, hzv, newVar, newRow, run_newObj_alloc, Sem.run_pure, Result.andThen_ok]
  exact hK _ _ (h _ rfl)
theorem wpList_box_ins {ops : Array Oper} {rest : List Oper} {o : Oper} {a : Act} {w : World} {Q : Exit → Act → World → Prop} (hgd : o.guard = none) (x y : Operand) (ho : o.op = .store 53 x y) {c : IM}
    (hx : a.eval x = .pointer (some ⟨w.heap.size, 0, none⟩)) (hy : a.eval y = c.v) {Z : Array Value} (hZ : Z.size = 43)
    (h : ∀ W, W.heap[w.heap.size]? = some (.cells (IM.cells c).toArray 53 (0, 0)) → Below w.heap.size w W → W.heap.size = w.heap.size + 1 → wpList Try.prog ops Q rest (a.put o.dst undef) W) :
    wpList Try.prog ops Q (o :: rest) a (w.alloc (.cells Z 53)) := by
  refine wpList_store_row hgd 53 x y ho w.heap.size (IM.cells c).toArray hx hy 53 _ (heap_alloc_new w _) size_ins hZ (all_oneCell_toArray (oneCell_im c)) ?_
  rw [World.setRow_alloc_new]
  exact h _ (heap_alloc_new w _) (bW w _) (World.size_alloc w _)
/-- An instruction is loaded out of its box. -/
theorem wpList_load_ins {ops : Array Oper} {rest : List Oper} {o : Oper} {a : Act} {w : World} {Q : Exit → Act → World → Prop} (hgd : o.guard = none) (x : Operand) (ho : o.op = .load 53 x)
    {b f : Nat} (hx : a.eval x = .pointer (some ⟨b, f, none⟩)) {c : IM} (hc : w.rangeAt b f (IM.cells c)) (h : wpList Try.prog ops Q rest (a.put o.dst c.v) w) : wpList Try.prog ops Q (o :: rest) a w :=
  wpList_load_mid hgd 53 x ho b f hx (IM.cells c) _ hc Try.underlying53 rfl size_ins h
/-- The jump is put into its box. -/
theorem box_jump {W : World} {p : Nat} {c : CM} {i j : Int} (h : W.heap[p]? = some (.cells (IM.cells (c, i)).toArray 53 (0, 0))) :
    (W.setCell ⟨p, 42, none⟩ (.int .i64 j)).heap[p]? = some (.cells (IM.cells (c, j)).toArray 53 (0, 0)) :=
  heap_setCell_same W p 42 _ _ (.int .i64 j) h
theorem obj_range {W : World} {p : Nat} {vs : List Value} {T : TypeId} (h : W.heap[p]? = some (.cells vs.toArray T (0, 0))) : W.rangeAt p 0 vs := fun j v hv => by
  rw [Nat.zero_add, obj_cell h]
  simpa using hv
end Go.Proofs.Ythlkmlphbepnpaa
