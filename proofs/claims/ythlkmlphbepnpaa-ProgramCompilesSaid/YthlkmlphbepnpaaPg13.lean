/-
  The commands that a law of package program makes of what it is given. No condition.
-/
import Derived.Test.YthlkmlphbepnpaaPg12
import Derived.Laws.Cover2
namespace Go.Proofs.Ythlkmlphbepnpaa
open Go.RowKit Go.Deep

/-- What a command is made of: its letter, its text, its file, its line. -/
structure BM where
  name : Int
  text : ByteArray
  file : ByteArray
  line : Int
def BM.cells (b : BM) : List Value := [.int .u8 b.name, .string b.text, .string b.file, .int .i64 b.line]
def bmV (l : List BM) : List Value := l.flatMap BM.cells
theorem BM.len (b : BM) : b.cells.length = 4 := rfl
def lineB (x : Int) : Int := if x < 0 ∨ 1000000 < x then 0 else x
def oneF : Nat := 4607182418800017408
def BM.cm (b : BM) : CM := ⟨floatOfInt .f64 (lineB b.line), oneF, b.name, b.text, b.file⟩
theorem conv_float (n : Int) (w : World) : (convert 3 55 (.int .i64 n)).run Try.prog w = .ok (.float .f64 (floatOfInt .f64 n)) w :=
  run_convert_int_float (P := Try.prog) w 3 55 .i64 .f64 n (by rw [Try.underlying3]; rfl) Try.underlying55
def CmdsAns (l : List BM) (w : World) (e : Ending) (w' : World) : Prop := Below w.heap.size w w' ∧
  (e = .returned (.tuple #[.slice none 0 0, .bool false]) ∨
   (l.length ≤ 220 ∧ (∀ b ∈ l, b.text.size ≤ 100 ∧ b.file.size ≤ 100) ∧ ∃ v, OwnC w' w.heap.size v (l.map BM.cm) ∧ e = .returned (.tuple #[v, .bool true])))
/-- What holds where a round begins. -/
structure CdJ (l : List BM) (w wr : World) (m : Nat) (v : Value) : Prop where
  le : m ≤ l.length
  most : m ≤ 220
  small : ∀ b ∈ l.take m, b.text.size ≤ 100 ∧ b.file.size ≤ 100
  own : OwnC wr w.heap.size v ((l.take m).map BM.cm)
  bel : Below w.heap.size w wr
theorem CdJ.put {l : List BM} {w wr w' : World} {m : Nat} {v v' : Value} (h : CdJ l w wr m v) {b : BM} (hb : l[m]? = some b) (hm : m < 220) (h1 : b.text.size ≤ 100) (h2 : b.file.size ≤ 100) (hown : OwnC w' w.heap.size v' ((l.take m).map BM.cm ++ [b.cm])) (hbel : Below w.heap.size w w') : CdJ l w w' (m + 1) v' := by
  have hlt := (List.getElem?_eq_some_iff.1 hb).1
  have ht : l.take (m + 1) = l.take m ++ [b] := by rw [List.take_add_one, hb]; rfl
  refine ⟨hlt, hm, fun c hc => ?_, by rw [ht, List.map_append]; exact hown, hbel⟩
  rw [ht] at hc
  rcases List.mem_append.1 hc with hc | hc
  · exact h.small c hc
  · rw [List.mem_singleton] at hc
    subst hc
    exact ⟨h1, h2⟩
theorem exec_load_one {P : Program} {o : Oper} {a : Act} {w : World} (ty : TypeId) (x : Operand) (ho : o.op = .load ty x) (p : Addr) (hx : a.eval x = .pointer (some p)) (v : Value) (hl : (Instr.loadAt ty (.pointer (some p))).run P w = .ok v w) : (execOp a.eval o).run P w = .ok (.value v) w := by
  unfold execOp
  simp only [ho, hx, Sem.run_bind, hl, Result.andThen_ok, Sem.run_pure]
theorem exec_build_all {o : Oper} {a : Act} {w : World} (x y z u : Operand) (ho : o.op = .build 51 #[(1, x), (5, y), (13, z), (0, u)]) {n : Int} {re im : Nat} {t f : ByteArray} (hx : a.eval x = .int .u8 n) (hy : a.eval y = .string t) (hz : a.eval z = .string f) (hu : a.eval u = .complex .f64 re im) :
    (execOp a.eval o).run Try.prog w = .ok (.value (CM.v ⟨re, im, n, t, f⟩)) w := by
  unfold execOp
  have hp : (#[(1, x), (5, y), (13, z), (0, u)] : Array (Nat × Operand)).map (fun (i, x) => (i, a.eval x)) = #[(1, .int .u8 n), (5, .string t), (13, .string f), (0, .complex .f64 re im)] := by simp [hx, hy, hz, hu]
  have hr := run_build (P := Try.prog) w 51 #[(1, .int .u8 n), (5, .string t), (13, .string f), (0, .complex .f64 re im)] _ (built_all n t f re im)
  simp only [ho, hp, Sem.run_bind, hr, Result.andThen_ok, Sem.run_pure]
  rfl
theorem wp_lit_one {o : Oper} {a : Act} {w : World} {K : Act → World → Prop} {Q : Exit → Act → World → Prop} (x : Operand) (ho : o.op = .buildSlice 23 1 #[(0, x)]) {c : CM} (hx : a.eval x = c.v)
    (h : ∀ W g, g = w.heap.size → OwnC W w.heap.size (.slice (some ⟨g, 0, none⟩) 1 1) [c] → Below w.heap.size w W → K (a.put o.dst (.slice (some ⟨g, 0, none⟩) 1 1)) W) : o.wp Try.prog a w K Q := by
  unfold Oper.wp execOp
  have hp : (#[(0, x)] : Array (Nat × Operand)).map (fun (i, x) => (i, a.eval x)) = #[(0, c.v)] := by simp [hx]
  simp only [ho, hp, Sem.run_bind, lit_one, Result.andThen_ok, Sem.run_pure]
  exact h _ _ rfl (own_lit w [c] (by simp)) (bW w _)
theorem wp_append_cmd {a : Act} {K : Act → World → Prop} {Q : Exit → Act → World → Prop} {s x : Operand} {ps : String} {af : Array Edge} {w : World} {base : Nat} {v : Value} {cs : List CM} {A : Option Addr} {c n : Nat} (d : Tmp) (us : List CM)
    (hown : OwnC w base v cs) (hat : RawAt w A (cmV us)) (hnu : n = us.length) (hs : a.eval s = v) (hx : a.eval x = .slice A n c) (hn : cs.length + us.length ≤ 1073741824) (hbase : base ≤ w.heap.size)
    (h : ∀ v' w', OwnC w' base v' (cs ++ us) → Turned (fun j => v.ownBlock = some j) w w' → (∀ k, v'.ownBlock = some k → v.ownBlock = some k ∨ w.heap.size ≤ k) → K (a.put (some d) v') w') :
    Oper.wp Try.prog { dst := some d, op := .call { callee := .builtin .append, args := #[s, x], argTypes := #[23, 23] }, type := 23, pos := ps, after := af, guard := none } a w K Q := by
  subst hnu
  obtain ⟨v', w', hap, hown', ht, hk⟩ := run_append_cmd hown A c us hat hn hbase
  unfold Oper.wp
  simp [execOp, resolve, invoke, builtin, hs, hx, hap, Result.andThen]
  exact h v' w' hown' ht hk
end Go.Proofs.Ythlkmlphbepnpaa
