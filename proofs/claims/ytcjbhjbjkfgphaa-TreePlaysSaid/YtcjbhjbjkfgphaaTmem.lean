/-
  Files in memory: a row of three cells for each, read anywhere, or of the call's own. No condition.
-/
import Derived.Test.YtcjbhjbjkfgphaaTmodel
import Derived.Test.YtcjbhjbjkfgphaaStrs
namespace Go.Proofs.Ytcjbhjbjkfgphaa
open Go.RowKit Go.Deep

def FileM.cells (f : FileM) : List Value := [.string f.path, .int .i64 f.ver, .string f.text]
def filesV (fs : List FileM) : List Value := fs.flatMap FileM.cells
theorem length_filesV : ∀ fs : List FileM, (filesV fs).length = fs.length * 3
  | [] => rfl
  | f :: r => by
    have := length_filesV r
    simp only [filesV, List.flatMap_cons, List.length_append, List.length_cons] at this ⊢
    simp only [FileM.cells, List.length_cons, List.length_nil]
    omega
theorem filesV_append (a b : List FileM) : filesV (a ++ b) = filesV a ++ filesV b := by simp [filesV]
theorem filesV_one (f : FileM) : filesV [f] = f.cells := by simp [filesV]
theorem filesV_at : ∀ {fs : List FileM} (i : Nat) (f : FileM), fs[i]? = some f → ∀ (j : Nat) (v : Value), f.cells[j]? = some v → (filesV fs)[i * 3 + j]? = some v
  | [], i, f, h, _, _, _ => by simp at h
  | a :: r, 0, f, h, j, v, hv => by
    simp at h
    subst h
    have hj : j < a.cells.length := (List.getElem?_eq_some_iff.1 hv).1
    simp only [filesV, List.flatMap_cons, Nat.zero_mul, Nat.zero_add]
    rw [List.getElem?_append_left hj]
    exact hv
  | a :: r, i + 1, f, h, j, v, hv => by
    have := filesV_at (fs := r) i f (by simpa using h) j v hv
    simp only [filesV, List.flatMap_cons]
    have h3 : a.cells.length = 3 := rfl
    rw [List.getElem?_append_right (by omega), h3, show (i + 1) * 3 + j - 3 = i * 3 + j by omega]
    exact this
theorem oneCell_filesV {fs : List FileM} : ∀ v ∈ filesV fs, v.oneCell' = true := by
  intro v hv
  obtain ⟨f, _, hv⟩ := List.mem_flatMap.1 hv
  simp only [FileM.cells, List.mem_cons, List.not_mem_nil, or_false] at hv
  rcases hv with rfl | rfl | rfl <;> rfl
/-- Files as they lie in memory. -/
def FilesAt (w : World) (A : Option Addr) (fs : List FileM) : Prop := ∀ i f, fs[i]? = some f → ∃ g o, A = some ⟨g, o, none⟩ ∧ w.rangeAt g (o + i * 3) f.cells
theorem FilesAt.below {w w' : World} {A : Option Addr} {fs : List FileM} (h : FilesAt w A fs) (hb : Below w.heap.size w w') : FilesAt w' A fs := fun i f hi => by
  obtain ⟨g, o, e, hr⟩ := h i f hi
  exact ⟨g, o, e, fun j v hv => by rw [World.cell?_of_block (hb.block g (World.block_lt_of_cell? _ _ (hr 0 _ rfl)))]; exact hr j v hv⟩
theorem FilesAt.turned {w w' : World} {T : Nat → Prop} {A : Option Addr} {fs : List FileM} (h : FilesAt w A fs) (ht : Turned T w w') (hT : ∀ a, A = some a → ¬ T a.block) : FilesAt w' A fs := fun i f hi => by
  obtain ⟨g, o, e, hr⟩ := h i f hi
  exact ⟨g, o, e, fun j v hv => ht.cell (hr j v hv) (show ¬ T g from hT ⟨g, o, none⟩ e)⟩
/-- A row of files of the call's own, or none as yet. -/
def FilesOwn (w : World) (base : Nat) (v : Value) (fs : List FileM) : Prop := w.ownsRow base 49 3 v fs.length (filesV fs)
theorem FilesOwn.nil (w : World) (base : Nat) : FilesOwn w base (.slice none 0 0) [] := World.ownsRow_nil _ _ _ _
theorem FilesOwn.turned {w w' : World} {base : Nat} {v : Value} {fs : List FileM} {T : Nat → Prop} (h : FilesOwn w base v fs) (ht : Turned T w w') (hT : ∀ k, v.ownBlock = some k → ¬ T k) : FilesOwn w' base v fs := ownsRow_turned h ht hT
theorem FilesOwn.below {w w' : World} {base : Nat} {v : Value} {fs : List FileM} (h : FilesOwn w base v fs) (hb : Below w.heap.size w w') : FilesOwn w' base v fs := h.turned (Turned.of_below (S := fun _ => False) hb) (fun _ _ h => h)
theorem FilesOwn.lt {w : World} {base : Nat} {v : Value} {fs : List FileM} (h : FilesOwn w base v fs) : ∀ k, v.ownBlock = some k → base ≤ k ∧ k < w.heap.size := fun k hk => World.ownsRow.lt h k hk
theorem FilesOwn.form {w : World} {base : Nat} {v : Value} {fs : List FileM} (h : FilesOwn w base v fs) : ∃ A c, v = .slice A fs.length c ∧ FilesAt w A fs := by
  have h' := h
  rcases h.2 with ⟨e, hn⟩ | ⟨k, cap, cur, e, _⟩
  · have hl : fs = [] := List.eq_nil_of_length_eq_zero hn
    subst hl
    exact ⟨none, 0, e, fun i l hi => by simp at hi⟩
  · subst e
    refine ⟨_, cap, rfl, fun i f hi => ⟨k, 0, rfl, fun j v hv => ?_⟩⟩
    have hil := (List.getElem?_eq_some_iff.1 hi).1
    have hj : j < 3 := (List.getElem?_eq_some_iff.1 hv).1
    rw [Nat.zero_add, World.ownsRow.cellAt h' (i * 3 + j) (by omega)]
    exact filesV_at i f hi j v hv
set_option maxRecDepth 100000 in
theorem info_file : (Try.prog.info? 49).map (fun i => (i.zero, i.size, i.bytes)) = some (some (.agg #[.string ⟨#[]⟩, .int .i64 0, .string ⟨#[]⟩]), 3, 40) := by kernel_rfl
set_option maxRecDepth 100000 in
/-- Files put behind, whatever lies where they are read. -/
theorem wpList_append_files {ops : Array Oper} {rest : List Oper} {a : Act} {Q : Exit → Act → World → Prop} {s x : Operand} {ps : String} {af : Array Edge} {w : World} {base k cap : Nat} {v : Value} {fs : List FileM} {A : Option Addr} (d : Tmp) (f2 : List FileM) (hown : FilesOwn w base v fs) (hat : FilesAt w A f2)
    (hs : a.eval s = v) (hx : a.eval x = .slice A k cap) (hk : k = f2.length) (h0 : 0 < f2.length) (hn : fs.length + f2.length ≤ 1099511627776) (hbase : base ≤ w.heap.size)
    (h : ∀ v' w', FilesOwn w' base v' (fs ++ f2) → Turned (fun j => v.ownBlock = some j) w w' → (∀ k, v'.ownBlock = some k → v.ownBlock = some k ∨ w.heap.size ≤ k) → wpList Try.prog ops Q rest (a.put (some d) v') w') :
    wpList Try.prog ops Q ({ dst := some d, op := .call { callee := .builtin .append, args := #[s, x], argTypes := #[30, 30] }, type := 30, pos := ps, after := af, guard := none } :: rest) a w := by
  subst hk
  obtain ⟨i, hi, hz, hsz, hby⟩ := info_parts info_file
  obtain ⟨f0, hf0⟩ : ∃ f, f2[0]? = some f := ⟨f2[0]'h0, List.getElem?_eq_getElem _⟩
  obtain ⟨g, o, rfl, _⟩ := hat 0 f0 hf0
  obtain ⟨gg, cc, w', hap, hown', hgrow, hwh, _⟩ := run_append_lies (P := Try.prog) w 30 30 base 49 i _ 3 40 Try.underlying30 hi hz hsz hby (by rfl) (by omega) v fs.length (filesV fs) hown ⟨g, o, none⟩ f2.length cap (filesV f2) (length_filesV f2)
    (fun j u hu => by
      have hj := (List.getElem?_eq_some_iff.1 hu).1
      rw [length_filesV] at hj
      obtain ⟨f, hf⟩ : ∃ f, f2[j / 3]? = some f := ⟨f2[j / 3]'(by omega), List.getElem?_eq_getElem _⟩
      obtain ⟨g', o', e, hr⟩ := hat (j / 3) f hf
      cases e
      have hm : j % 3 < 3 := Nat.mod_lt _ (by omega)
      obtain ⟨u', hu'⟩ : ∃ u, f.cells[j % 3]? = some u := ⟨f.cells[j % 3]'(by simpa [FileM.cells] using hm), List.getElem?_eq_getElem _⟩
      have h1 := hr (j % 3) u' hu'
      have h2 := filesV_at (j / 3) f hf (j % 3) u' hu'
      rw [show j / 3 * 3 + j % 3 = j by omega] at h2
      rw [hu] at h2
      cases h2
      rw [Addr.add_mid, show o + j = o + j / 3 * 3 + j % 3 by omega]
      exact h1) oneCell_filesV h0 (by unfold maxLen; omega) (by omega) hbase _ rfl
  refine wpList_append_to d hap hs hx (h _ w' ?_ (Turned.of_grown (S := fun j => v.ownBlock = some j) hgrow (fun k hk => hk)) ?_)
  · unfold FilesOwn
    rw [List.length_append, filesV_append]
    exact hown'
  · intro k hk
    have e : some gg = some k := hk
    injection e with e
    subst e
    rcases hwh with hwh | hwh
    · exact .inl hwh
    · exact .inr (by rw [hwh]; exact Nat.le_refl _)
end Go.Proofs.Ytcjbhjbjkfgphaa
