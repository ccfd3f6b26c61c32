/-
  Commands without patterns and templates, and instructions, in memory. Condition: rows of fewer than 2^30 of them.
-/
import Derived.Test.YthlkmlphbepnpaaPg1
import Derived.Test.YthlkmlphbepnpaaPraw
namespace Go.Proofs.Ythlkmlphbepnpaa
open Go.RowKit Go.Deep

/-- A command without patterns, addresses and template: its place, its letter, its text, its file. -/
structure CM where
  re : Nat
  im : Nat
  name : Int
  text : ByteArray
  file : ByteArray
def CM.cells (c : CM) : List Value := [.complex .f64 c.re c.im, .int .u8 c.name, .int .i64 0, .int .i64 0, .int .i64 0, .int .u64 0, .int .u64 0, .int .u64 0, .int .u64 0, .int .i64 0, .int .i64 0, .int .i64 0, .slice none 0 0, .int .i64 0, .int .i64 0, .int .i64 0, .int .u64 0, .int .u64 0, .int .u64 0, .int .u64 0, .int .i64 0, .int .i64 0, .int .i64 0, .slice none 0 0, .bool false, .string c.text, .string ⟨#[]⟩, .int .i64 0, .int .u64 0, .int .u64 0, .int .u64 0, .int .u64 0, .int .i64 0, .int .i64 0, .int .i64 0, .slice none 0 0, .bool false, .slice none 0 0, .bool false, .bool false, .int .i64 0, .string c.file]
def CM.v (c : CM) : Value := .agg c.cells.toArray
def cmV (l : List CM) : List Value := l.flatMap CM.cells
theorem CM.len (c : CM) : c.cells.length = 42 := rfl
/-- An instruction: a command, and its jump. -/
abbrev IM := CM × Int
def IM.cells (x : IM) : List Value := x.1.cells ++ [.int .i64 x.2]
def imV (l : List IM) : List Value := l.flatMap IM.cells
theorem IM.len (x : IM) : (IM.cells x).length = 43 := rfl
theorem flat_len {α : Type} {f : α → List Value} {m : Nat} (hf : ∀ x, (f x).length = m) : ∀ l : List α, (l.flatMap f).length = l.length * m
  | [] => by simp
  | a :: r => by rw [List.flatMap_cons, List.length_append, hf, flat_len hf r, List.length_cons, Nat.add_mul, Nat.one_mul, Nat.add_comm]
theorem flat_get {α : Type} {f : α → List Value} {m : Nat} (hf : ∀ x, (f x).length = m) : ∀ (l : List α) (i : Nat) (x : α), l[i]? = some x → ∀ (j : Nat) (v : Value), (f x)[j]? = some v → (l.flatMap f)[i * m + j]? = some v
  | [], i, x, h, _, _, _ => by simp at h
  | a :: r, 0, x, h, j, v, hv => by
    simp at h
    subst h
    rw [List.flatMap_cons, Nat.zero_mul, Nat.zero_add, List.getElem?_append_left (List.getElem?_eq_some_iff.1 hv).1]
    exact hv
  | a :: r, i + 1, x, h, j, v, hv => by
    rw [List.flatMap_cons, List.getElem?_append_right (by rw [hf, Nat.add_mul]; omega), hf, show (i + 1) * m + j - m = i * m + j by rw [Nat.add_mul]; omega]
    exact flat_get hf r i x (by simpa using h) j v hv
theorem length_cmV (l : List CM) : (cmV l).length = l.length * 42 := flat_len CM.len l
theorem length_imV (l : List IM) : (imV l).length = l.length * 43 := flat_len IM.len l
theorem cmV_append (a b : List CM) : cmV (a ++ b) = cmV a ++ cmV b := by simp [cmV]
theorem oneCell_cm (c : CM) : ∀ v ∈ c.cells, v.oneCell' = true := by
  have h : c.cells.all (·.oneCell') = true := rfl
  exact fun v hv => List.all_eq_true.1 h v hv
theorem oneCell_cmV {l : List CM} : ∀ v ∈ cmV l, v.oneCell' = true := by
  intro v hv
  obtain ⟨c, _, hv⟩ := List.mem_flatMap.1 hv
  exact oneCell_cm c v hv
/-- A row's element, as it lies. -/
theorem raw_elem {α : Type} {f : α → List Value} {m : Nat} (hf : ∀ x, (f x).length = m) (hm : 0 < m) {w : World} {A : Option Addr} {l : List α} (h : RawAt w A (l.flatMap f)) {i : Nat} {x : α} (hx : l[i]? = some x) : ∃ g o, A = some ⟨g, o, none⟩ ∧ w.rangeAt g (o + i * m) (f x) := by
  rcases h with h | ⟨g, o, e, hr⟩
  · have h2 := flat_len hf l
    rw [h] at h2
    have h3 := (List.getElem?_eq_some_iff.1 hx).1
    have h4 : 0 < l.length * m := Nat.mul_pos (by omega) hm
    simp only [List.length_nil] at h2
    omega
  · refine ⟨g, o, e, fun j v hv => ?_⟩
    rw [Nat.add_assoc]
    exact hr _ v (flat_get hf l i x hx j v hv)
/-- The letter and the text of the i-th command. -/
def cN (l : List CM) (i : Nat) : Int := ((l[i]?).map CM.name).getD 0
def cT (l : List CM) (i : Nat) : ByteArray := ((l[i]?).map CM.text).getD ⟨#[]⟩
theorem cN_at {l : List CM} {i : Nat} {c : CM} (h : l[i]? = some c) : cN l i = c.name := by simp [cN, h]
theorem cT_at {l : List CM} {i : Nat} {c : CM} (h : l[i]? = some c) : cT l i = c.text := by simp [cT, h]
theorem cN_lt {l : List CM} {i : Nat} (h : cN l i ≠ 0) : i < l.length := by
  apply Nat.lt_of_not_le
  intro hle
  apply h
  simp [cN, List.getElem?_eq_none hle]
set_option maxRecDepth 100000 in
theorem info_cmd : (Try.prog.info? 51).map (fun i => (i.zero, i.size, i.bytes)) = some (some (.agg (CM.cells ⟨0, 0, 0, ⟨#[]⟩, ⟨#[]⟩⟩).toArray), 42, 424) := by kernel_rfl
set_option maxRecDepth 100000 in
theorem info_ins : (Try.prog.info? 53).map (fun i => (i.zero, i.size, i.bytes)) = some (some (.agg (IM.cells (⟨0, 0, 0, ⟨#[]⟩, ⟨#[]⟩⟩, 0)).toArray), 43, 432) := by kernel_rfl
theorem info_int : (Try.prog.info? 3).map (fun i => (i.zero, i.size, i.bytes)) = some (some (.int .i64 0), 1, 8) := by kernel_rfl
theorem size_cmd : (Try.prog.info? 51).map (·.size) = some 42 := by kernel_rfl
theorem size_ins : (Try.prog.info? 53).map (·.size) = some 43 := by kernel_rfl
/-- A command in a row, loaded whole. -/
theorem load_cmd {w : World} {g o : Nat} {c : CM} (h : w.rangeAt g o c.cells) : (Instr.loadAt 51 (.pointer (some ⟨g, o, none⟩))).run Try.prog w = .ok c.v w :=
  run_loadAt_mid w g o 51 c.cells _ h Try.underlying51 rfl size_cmd
end Go.Proofs.Ythlkmlphbepnpaa
