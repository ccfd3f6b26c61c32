/-
  The document's answer's Set: its errors, and the list that rises. Condition: the list given rises, and is no longer than 2^40 files.
-/
import Derived.Test.YtcjbhjbjkfgphaaTref2
import Derived.Deep.MidRow
namespace Go.Proofs.Ytcjbhjbjkfgphaa
open Go.RowKit Go.Deep

theorem turned_setCell' (W : World) (p : Addr) (v : Value) : Turned (fun k => k = p.block) W (W.setCell p v) :=
  ⟨rfl, rfl, rfl, by simp [World.setCell], fun k _ hk => Below.heap_setCell _ _ _ _ (fun e => hk (by simp [e]))⟩
theorem filesV_set : ∀ {fs : List FileM} (i : Nat) (f : FileM), i < fs.length → (((filesV fs).set (i * 3) (.string f.path)).set (i * 3 + 1) (.int .i64 f.ver)).set (i * 3 + 2) (.string f.text) = filesV (fs.set i f)
  | [], i, f, h => by simp at h
  | a :: r, 0, f, _ => rfl
  | a :: r, i + 1, f, h => by
    have ih := filesV_set (fs := r) i f (by simpa using h)
    have e : filesV (a :: r) = .string a.path :: .int .i64 a.ver :: .string a.text :: filesV r := rfl
    have e2 : filesV ((a :: r).set (i + 1) f) = .string a.path :: .int .i64 a.ver :: .string a.text :: filesV (r.set i f) := rfl
    rw [e, e2, ← ih, show (i + 1) * 3 = i * 3 + 1 + 1 + 1 by omega, show i * 3 + 1 + 1 + 1 + 1 = i * 3 + 1 + 1 + 1 + 1 from rfl]
    rfl
theorem FilesOwn.there {w : World} {base g n c : Nat} {fs : List FileM} (h : FilesOwn w base (.slice (some ⟨g, 0, none⟩) n c) fs) {i : Nat} (hi : i < fs.length) : w.there g (i * 3) 3 := by
  intro j hj
  have h' := h
  rcases h.2 with ⟨e, _⟩ | ⟨k, cap, cur, e, _, hk, hle, _, hsz, _⟩
  · simp at e
  · simp only [Value.slice.injEq, Option.some.injEq, Addr.mk.injEq, and_true] at e
    obtain ⟨rfl, rfl, rfl⟩ := e
    refine ⟨?_, by simp [World.frozen?, hk]⟩
    have : i * 3 + j < cur.size := by rw [hsz]; omega
    simp [World.cell?, hk, this]
set_option maxRecDepth 100000 in
/-- A file stored into a row of the call's own. -/
theorem wpList_store_file {ops : Array Oper} {rest : List Oper} {a : Act} {Q : Exit → Act → World → Prop} {x y : Operand} {ty : TypeId} {ps : String} {af : Array Edge} {w : World} {base g n c : Nat} {fs : List FileM} (i : Nat) (f : FileM) (hown : FilesOwn w base (.slice (some ⟨g, 0, none⟩) n c) fs) (hn : n = fs.length) (hi : i < fs.length)
    (hx : a.eval x = .pointer (some ⟨g, i * 3, none⟩)) (hy : a.eval y = .agg #[.string f.path, .int .i64 f.ver, .string f.text])
    (h : ∀ w', FilesOwn w' base (.slice (some ⟨g, 0, none⟩) n c) (fs.set i f) → Turned (fun j => j = g) w w' → wpList Try.prog ops Q rest (a.put none undef) w') :
    wpList Try.prog ops Q ({ dst := none, op := .store 49 x y, type := ty, pos := ps, after := af, guard := none } :: rest) a w := by
  obtain ⟨inf, hinf, _, hsz, _⟩ := info_parts info_file
  refine wpList_store_mid rfl 49 x y rfl g (i * 3) _ hx hy (hown.there hi) (by rw [hinf, Option.map_some, hsz]; rfl) (by simp [Value.oneCell']) ?_
  subst hn
  have s0 := World.ownsRow.stored hown (i * 3) (.string f.path)
  have s1 := World.ownsRow.stored s0.1 (i * 3 + 1) (.int .i64 f.ver)
  have s2 := World.ownsRow.stored s1.1 (i * 3 + 2) (.string f.text)
  refine h _ ?_ ?_
  · unfold FilesOwn
    rw [List.length_set, ← filesV_set i f hi]
    exact s2.1
  · exact ((turned_setCell' w ⟨g, i * 3, none⟩ _).trans (turned_setCell' _ ⟨g, i * 3 + 1, none⟩ _) (fun _ _ h => h)).trans (turned_setCell' _ ⟨g, i * 3 + 2, none⟩ _) (fun _ _ h => h)
set_option maxRecDepth 100000 in
/-- Nothing put behind. -/
theorem wpList_append_none {ops : Array Oper} {rest : List Oper} {a : Act} {Q : Exit → Act → World → Prop} {s x : Operand} {ps : String} {af : Array Edge} {w : World} {g n c cap : Nat} {A : Option Addr} (d : Tmp) (hnc : n ≤ c)
    (hs : a.eval s = .slice (some ⟨g, 0, none⟩) n c) (hx : a.eval x = .slice A 0 cap) (h : wpList Try.prog ops Q rest (a.put (some d) (.slice (some ⟨g, 0, none⟩) n c)) w) :
    wpList Try.prog ops Q ({ dst := some d, op := .call { callee := .builtin .append, args := #[s, x], argTypes := #[30, 30] }, type := 30, pos := ps, after := af, guard := none } :: rest) a w := by
  obtain ⟨inf, hinf, _, hsz, _⟩ := info_parts info_file
  refine wpList_append_to (w' := w) (r := .slice (some ⟨g, 0, none⟩) n c) d ?_ hs hx h
  have h0 : ∀ a : Addr, (loadCells a 0).run Try.prog w = .ok #[] w := fun a => by
    have := run_loadCells_list (P := Try.prog) w a [] (fun j v hj => by simp at hj)
    simpa using this
  cases A <;> simp [h0, Builtin.append_, run_underlying Try.underlying30, sizeOf, typeInfo, hinf, hsz, Builtin.lenOf, Builtin.firstCells, hnc, storeCells]
/-- The answer of Set. -/
def SetAns (fs : List FileM) (f : FileM) (w : World) (e : Ending) (w' : World) : Prop := ∃ v, e = .returned (.tuple #[v, .int .i64 0]) ∧ FilesOwn w' w.heap.size v (putF fs f) ∧ Below w.heap.size w w'
/-- How far the new file has come: pre ahead of it, suf behind it. -/
def InsRel (w : World) (base g m c : Nat) (old : List FileM) (f : FileM) (kv : Value) (W : World) : Prop :=
  ∃ (k : Nat) (pre suf : List FileM), kv = .int .i64 (k : Int) ∧ pre.length = k ∧ old = pre ++ suf ∧ (∀ x ∈ suf, pless f.path x.path = true) ∧ FilesOwn W base (.slice (some ⟨g, 0, none⟩) m c) (pre ++ f :: suf) ∧ Below base w W
theorem pre_less {pre : List FileM} {q f : FileM} {suf : List FileM} (h : Rising (pre ++ q :: suf)) (hq : pless q.path f.path = true) : ∀ x ∈ pre ++ [q], pless x.path f.path = true := by
  intro x hx
  rcases List.mem_append.1 hx with hx | hx
  · exact pless_trans ((rising_split h).2.2 x hx q List.mem_cons_self) hq
  · rw [List.mem_singleton] at hx
    rw [hx]
    exact hq
theorem set_swap (pre suf : List FileM) (q f : FileM) : ((pre ++ [q] ++ f :: suf).set (pre.length + 1) q).set pre.length f = pre ++ f :: (q :: suf) := by
  have e1 : (pre ++ [q] ++ f :: suf).set (pre.length + 1) q = pre ++ [q] ++ q :: suf := by
    rw [List.set_append_right _ _ (by simp)]
    simp
  rw [e1, List.append_assoc, List.set_append_right _ _ (Nat.le_refl _)]
  simp
end Go.Proofs.Ytcjbhjbjkfgphaa
