/-
  Commands taken out of a row into a box of their own, for the walk; the map of labels. Condition: texts of at most a million bytes.
-/
import Derived.Test.YthlkmlphbepnpaaPg4
import Derived.Maps.Own
import Derived.Maps.Views
import Derived.StringKeys
import Derived.ProofKit
import Derived.WalkArith
import Derived.Great.Ranges
namespace Go.Proofs.Ythlkmlphbepnpaa
open Go.RowKit Go.Deep Go.Maps

/-- A command is loaded out of a row. -/
theorem wpList_load_cmd {ops : Array Oper} {rest : List Oper} {o : Oper} {a : Act} {w : World} {Q : Exit → Act → World → Prop} (hgd : o.guard = none) (x : Operand) (ho : o.op = .load 51 x)
    {b f : Nat} (hx : a.eval x = .pointer (some ⟨b, f, none⟩)) {c : CM} (hc : w.rangeAt b f c.cells) (h : wpList Try.prog ops Q rest (a.put o.dst c.v) w) : wpList Try.prog ops Q (o :: rest) a w :=
  wpList_load_mid hgd 51 x ho b f hx c.cells _ hc Try.underlying51 rfl size_cmd h
/-- A box for a command is made. -/
theorem wpList_alloc_cmd {ops : Array Oper} {rest : List Oper} {o : Oper} {a : Act} {w : World} {Q : Exit → Act → World → Prop} (hgd : o.guard = none) (ho : o.op = .alloc 51)
    (h : ∀ Z : Array Value, Z.size = 42 → wpList Try.prog ops Q rest (a.put o.dst (.pointer (some ⟨w.heap.size, 0, none⟩))) (w.alloc (.cells Z 51))) : wpList Try.prog ops Q (o :: rest) a w := by
  obtain ⟨i, hi, hz, hs, hb⟩ := info_parts info_cmd
  refine wpList_plain hgd fun K hK => ?_
  unfold Oper.wp execOp
  have hzv : (zeroValue 51).run Try.prog w = .ok (.agg (CM.cells ⟨0, 0, 0, ⟨#[]⟩, ⟨#[]⟩⟩).toArray) w := by
    simp [zeroValue, typeInfo, hi, hz]
  simp only [ho, Sem.run_bind, Instr.alloc, hzv, newVar, newRow, run_newObj_alloc, Sem.run_pure, Result.andThen_ok]
  exact hK _ _ (h _ rfl)
/-- .. and the command put into it. -/
theorem wpList_box_cmd {ops : Array Oper} {rest : List Oper} {o : Oper} {a : Act} {w : World} {Q : Exit → Act → World → Prop} (hgd : o.guard = none) (x y : Operand) (ho : o.op = .store 51 x y) {c : CM}
    (hx : a.eval x = .pointer (some ⟨w.heap.size, 0, none⟩)) (hy : a.eval y = c.v) {Z : Array Value} (hZ : Z.size = 42)
    (h : ∀ W, W.heap[w.heap.size]? = some (.cells c.cells.toArray 51 (0, 0)) → Below w.heap.size w W → W.heap.size = w.heap.size + 1 → wpList Try.prog ops Q rest (a.put o.dst undef) W) :
    wpList Try.prog ops Q (o :: rest) a (w.alloc (.cells Z 51)) := by
  refine wpList_store_row hgd 51 x y ho w.heap.size c.cells.toArray hx hy 51 _ (heap_alloc_new w _) size_cmd hZ (all_oneCell_toArray (oneCell_cm c)) ?_
  rw [World.setRow_alloc_new]
  exact h _ (heap_alloc_new w _) (bW w _) (World.size_alloc w _)
/-- A command in its box: its letter, its text, its file, its place. -/
theorem box_cmd {W : World} {b : Nat} {c : CM} {T : TypeId} (h : W.heap[b]? = some (.cells c.cells.toArray T (0, 0))) : W.cell? ⟨b, 1, none⟩ = some (.int .u8 c.name) ∧ W.cell? ⟨b, 25, none⟩ = some (.string c.text) ∧ W.cell? ⟨b, 41, none⟩ = some (.string c.file) ∧ W.cell? ⟨b, 0, none⟩ = some (.complex .f64 c.re c.im) :=
  ⟨by rw [obj_cell h]; rfl, by rw [obj_cell h]; rfl, by rw [obj_cell h]; rfl, by rw [obj_cell h]; rfl⟩

/-! ### the map of labels -/
def keyL (t : ByteArray) : Lit := .string t.data.toList
theorem keyL_inj {s t : ByteArray} (h : keyL s = keyL t) : s = t := by
  unfold keyL at h
  injection h with h
  have h2 : txt s.data.toList = txt t.data.toList := by rw [h]
  rwa [txt_of, txt_of] at h2
theorem keyed_str : Keyed Try.prog 9 := string_keyed Try.underlying9
theorem key_ok {t : ByteArray} (h : t.size ≤ 1048576) : keyOf Try.prog 9 (.string t) = some (keyL t) := Go.WideMaps.keyOf_string_mk Try.underlying9 (by unfold maxLen; omega)
/-- A map that holds the labels of the first m commands. -/
def LabAt (w : World) (b m : Nat) (N : Nat → Int) (T : Nat → ByteArray) : Prop := ∃ D : DataW Value, w.ownsMap Try.prog 9 (plainElem Try.prog 3) b m D ∧ IsMap D ∧
  (∀ k, k < m → N k = 58 → ∀ z, D.atKey (keyL (T k)) z = .lit (.int .i64 (k : Int))) ∧ ∀ t, (∀ k, k < m → N k = 58 → T k ≠ t) → ∀ z, D.atKey (keyL t) z = z
theorem LabAt.made (w : World) (N : Nat → Int) (T : Nat → ByteArray) : LabAt (w.alloc (.map #[] 0)) w.heap.size 0 N T :=
  ⟨_, World.ownsMap_made w _ _ _, isMap_empty, fun k hk => absurd hk (Nat.not_lt_zero k), fun _ _ _ => rfl⟩
theorem LabAt.stays {w w' : World} {b m : Nat} {N : Nat → Int} {T : Nat → ByteArray} {S : Nat → Prop} (h : LabAt w b m N T) (ht : Turned S w w') (hS : ¬ S b) : LabAt w' b m N T := by
  obtain ⟨D, ⟨es, ck, hb, rest⟩, h2⟩ := h
  exact ⟨D, ⟨es, ck, ht.obj hb hS, rest⟩, h2⟩
theorem LabAt.skip {w : World} {b m : Nat} {N : Nat → Int} {T : Nat → ByteArray} (h : LabAt w b m N T) (hn : N m ≠ 58) : LabAt w b (m + 1) N T := by
  obtain ⟨D, h1, h2, h3, h4⟩ := h
  refine ⟨D, h1.mono (Nat.le_succ m), h2, fun k hk hn' => ?_, fun t ht => h4 t fun k hk => ht k (by omega)⟩
  rcases Nat.lt_or_ge k m with h5 | h5
  · exact h3 k h5 hn'
  · obtain rfl : k = m := by omega
    exact absurd hn' hn
theorem zero_int (w : World) : (zeroValue 3).run Try.prog w = .ok (.int .i64 0) w := by kernel_rfl
theorem map_lab : Try.prog.underlying 70 = some (.map 9 3) := Try.underlying70
/-- What is looked up is a label, or is not there. -/
theorem LabAt.look {w : World} {b m : Nat} {N : Nat → Int} {T : Nat → ByteArray} (h : LabAt w b m N T) {t : ByteArray} (ht : t.size ≤ 1048576) :
    ((∀ k, k < m → N k = 58 → T k ≠ t) ∧ (Instr.lookup 70 (.map (some b)) (.string t) true).run Try.prog w = .ok (.tuple #[.int .i64 0, .bool false]) w) ∨
    ∃ k, k < m ∧ N k = 58 ∧ T k = t ∧ (Instr.lookup 70 (.map (some b)) (.string t) true).run Try.prog w = .ok (.tuple #[.int .i64 (k : Int), .bool true]) w := by
  obtain ⟨D, ⟨es, ck, hb, F, hs, rfl⟩, h2, h3, h4⟩ := h
  rcases fit_look true keyed_str map_lab (zero_int w) hb F (key_ok ht) with ⟨hrun, _, hat⟩ | ⟨e0, y, _, _, hrun, hR, hat, _⟩
  · refine .inl ⟨fun k hk hn he => ?_, hrun⟩
    subst he
    have h5 := h3 k hk hn .nil
    rw [hat .nil] at h5
    cases h5
  · by_cases hex : ∃ k, k < m ∧ N k = 58 ∧ T k = t
    · obtain ⟨k, hk, hn, rfl⟩ := hex
      have h5 := h3 k hk hn .nil
      rw [hat .nil] at h5
      obtain ⟨a, ha, rfl, _⟩ := plainElem_int_inv Try.underlying3 hR
      simp only at h5
      injection h5 with h5
      injection h5 with _ h5
      subst h5
      rw [ha] at hrun
      exact .inr ⟨k, hk, hn, rfl, hrun⟩
    · have h5 := fun z => (hat z).symm.trans (h4 t (fun k hk hn he => hex ⟨k, hk, hn, he⟩) z)
      have h6 := h5 .nil
      have h7 := h5 (.lit (.bool true))
      rw [h6] at h7
      cases h7
set_option maxRecDepth 100000 in
/-- A label is put in. -/
theorem LabAt.put {w : World} {b m : Nat} {N : Nat → Int} {T : Nat → ByteArray} (h : LabAt w b m N T) (hn : N m = 58) (hd : ∀ k, k < m → N k = 58 → T k ≠ T m) (ht : (T m).size ≤ 1048576) (hm : m ≤ 1048576) :
    ∃ w', (Instr.mapUpdate 70 (.map (some b)) (.string (T m)) (.int .i64 (m : Int))).run Try.prog w = .ok () w' ∧ LabAt w' b (m + 1) N T ∧ Turned (fun k => k = b) w w' := by
  obtain ⟨D, h1, h2, h3, h4⟩ := h
  obtain ⟨w', hrun, ho, hg⟩ := h1.update keyed_str map_lab (by unfold maxLen; omega) (key_ok ht) (plainElem_int Try.underlying3 (q := .i64) (a := (m : Int)) (WalkArith.wf_i64 (by omega)))
  refine ⟨w', hrun, ⟨_, ho, h2.put _ _, fun k hk hk58 z => ?_, fun t htt z => ?_⟩, Turned.of_grown hg fun k hk => by injection hk with hk; exact hk.symm⟩
  · rcases Nat.lt_or_ge k m with h5 | h5
    · rw [atKey_put_other (fun e => hd k h5 hk58 (keyL_inj e))]
      exact h3 k h5 hk58 z
    · obtain rfl : k = m := by omega
      exact atKey_put_same h2 (by unfold keyL WideAt.IsKeyLit; trivial) _ z
  · rw [atKey_put_other (fun e => htt m (by omega) hn (keyL_inj e).symm)]
    exact h4 t (fun k hk => htt k (by omega)) z
end Go.Proofs.Ythlkmlphbepnpaa
