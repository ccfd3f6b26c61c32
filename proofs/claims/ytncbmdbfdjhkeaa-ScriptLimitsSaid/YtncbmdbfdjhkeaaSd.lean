/-
  A command of a script in memory; blanks and comments skipped; what may follow a command. Condition: texts of at most 2000 bytes.
-/
import Derived.Test.YtncbmdbfdjhkeaaSc
namespace Go.Proofs.Ytncbmdbfdjhkeaa
open Go.RowKit Go.Deep Go.Sort

/-- A command, as it lies. -/
structure CX where
  re : Nat
  im : Nat
  name : Int
  fk : Int
  fl : Int
  fy : NV
  tk : Int
  tl : Int
  ty : NV
  nt : Bool
  text : ByteArray
  other : ByteArray
  py : NV
  ag : Bool
  tv : Value
  gl : Bool
  pr : Bool
  cnt : Int
  file : ByteArray
def CX.cells (c : CX) : List Value := [.complex .f64 c.re c.im, .int .u8 c.name, .int .i64 c.fk, .int .i64 c.fl] ++ c.fy.cells ++ [.int .i64 c.tk, .int .i64 c.tl] ++ c.ty.cells ++ [.bool c.nt, .string c.text, .string c.other] ++ c.py.cells ++ [.bool c.ag, c.tv, .bool c.gl, .bool c.pr, .int .i64 c.cnt, .string c.file]
theorem CX.len (c : CX) : c.cells.length = 42 := rfl
def NV.nil : NV := ⟨0, noS, 0, 0, 0, none, 0, 0⟩
def CX.zero (re im : Nat) : CX := ⟨re, im, 0, 0, 0, NV.nil, 0, 0, NV.nil, false, ⟨#[]⟩, ⟨#[]⟩, NV.nil, false, .slice none 0 0, false, false, 0, ⟨#[]⟩⟩
def Cm (c : CX) (b : Nat) (W : World) : Prop := W.heap[b]? = some (.cells c.cells.toArray 42 (0, 0))
theorem Cm.lt {c : CX} {b : Nat} {W : World} (h : Cm c b W) : b < W.heap.size := lt_of_some h
theorem Cm.cell {c : CX} {b : Nat} {W : World} (h : Cm c b W) (j : Nat) (v : Value) (hv : c.cells[j]? = some v) : W.cell? ⟨b, j, none⟩ = some v := by
  rw [obj_cell h]
  simpa using hv
theorem Cm.free {c : CX} {b : Nat} {W : World} (h : Cm c b W) (j : Nat) : W.frozen? ⟨b, j, none⟩ = false := frozen_of_row W b j _ _ h
theorem Cm.put {c : CX} {b : Nat} {W : World} (h : Cm c b W) (j : Nat) (v : Value) (c' : CX) (hc : c.cells.toArray.setIfInBounds j v = c'.cells.toArray) : Cm c' b (W.setCell ⟨b, j, none⟩ v) := by
  have := heap_setCell_same W b j _ _ v h
  unfold Cm
  rw [this, hc]
theorem Cm.other {c : CX} {b : Nat} {W : World} (h : Cm c b W) {a : Addr} (ha : b ≠ a.block) (u : Value) : Cm c b (W.setCell a u) := (heap_setCell_other W a b u ha).trans h
theorem Cm.stays {c : CX} {b : Nat} {W W' : World} (h : Cm c b W) (hb : Below W.heap.size W W') : Cm c b W' := Below.obj hb h (lt_of_some h)
theorem Cm.turned {c : CX} {b : Nat} {W W' : World} {S : Nat → Prop} (h : Cm c b W) (ht : Turned S W W') (hn : ¬ S b) : Cm c b W' := ht.obj h hn
theorem Cm.from_node {c : CX} {b : Nat} {W : World} (h : Cm c b W) : W.rangeAt b 4 c.fy.cells := fun j v hv => by
  have hj : j < 9 := (List.getElem?_eq_some_iff.1 hv).1
  rw [obj_cell h]
  rcases (show j = 0 ∨ j = 1 ∨ j = 2 ∨ j = 3 ∨ j = 4 ∨ j = 5 ∨ j = 6 ∨ j = 7 ∨ j = 8 by omega) with rfl | rfl | rfl | rfl | rfl | rfl | rfl | rfl | rfl <;> exact hv
theorem Cm.pat_node {c : CX} {b : Nat} {W : World} (h : Cm c b W) : W.rangeAt b 27 c.py.cells := fun j v hv => by
  have hj : j < 9 := (List.getElem?_eq_some_iff.1 hv).1
  rw [obj_cell h]
  rcases (show j = 0 ∨ j = 1 ∨ j = 2 ∨ j = 3 ∨ j = 4 ∨ j = 5 ∨ j = 6 ∨ j = 7 ∨ j = 8 by omega) with rfl | rfl | rfl | rfl | rfl | rfl | rfl | rfl | rfl <;> exact hv
/-- Cells laid one behind the other. -/
def setL : Array Value → Nat → List Value → Array Value
  | cs, _, [] => cs
  | cs, o, v :: r => setL (cs.setIfInBounds o v) (o + 1) r
theorem heap_setCells {g : Nat} {t : TypeId} : ∀ (vs : List Value) (o : Nat) (w : World) (cs : Array Value), w.heap[g]? = some (.cells cs t (0, 0)) → (w.setCells g o vs).heap[g]? = some (.cells (setL cs o vs) t (0, 0))
  | [], _, _, _, h => h
  | v :: r, o, w, cs, h => heap_setCells r (o + 1) (w.setCell ⟨g, o, none⟩ v) _ (heap_setCell_same w g o cs t v h)
theorem setCells_turned {g : Nat} {S : Nat → Prop} (hS : S g) : ∀ (vs : List Value) (o : Nat) (w W : World), Turned S w W → Turned S w (W.setCells g o vs)
  | [], _, _, _, h => h
  | v :: r, o, w, W, h => setCells_turned hS r (o + 1) w (W.setCell ⟨g, o, none⟩ v) (h.put hS o v)
theorem setL_4 (c : CX) (y : NV) : setL c.cells.toArray 4 y.cells = ({ c with fy := y } : CX).cells.toArray := by kernel_rfl
theorem Cm.node4 {c : CX} {b : Nat} {W : World} (h : Cm c b W) (y : NV) : Cm { c with fy := y } b (W.setCells b 4 y.cells) := by
  have := heap_setCells y.cells 4 W _ h
  rw [setL_4] at this
  exact this
theorem setL_15 (c : CX) (y : NV) : setL c.cells.toArray 15 y.cells = ({ c with ty := y } : CX).cells.toArray := by kernel_rfl
theorem Cm.node15 {c : CX} {b : Nat} {W : World} (h : Cm c b W) (y : NV) : Cm { c with ty := y } b (W.setCells b 15 y.cells) := by
  have := heap_setCells y.cells 15 W _ h
  rw [setL_15] at this
  exact this
theorem setL_27 (c : CX) (y : NV) : setL c.cells.toArray 27 y.cells = ({ c with py := y } : CX).cells.toArray := by kernel_rfl
theorem Cm.node27 {c : CX} {b : Nat} {W : World} (h : Cm c b W) (y : NV) : Cm { c with py := y } b (W.setCells b 27 y.cells) := by
  have := heap_setCells y.cells 27 W _ h
  rw [setL_27] at this
  exact this
theorem there_of {c : CX} {b : Nat} {W : World} (h : Cm c b W) (o : Nat) (ho : o + 9 ≤ 42) : W.there b o 9 := fun j hj => by
  refine ⟨?_, h.free _⟩
  have hl : o + j < c.cells.length := by rw [CX.len]; omega
  rw [obj_cell h]
  simp [hl]
/-- The reader's and the command's boxes. -/
structure RC (s : ByteArray) (ext : Bool) (r b : Nat) (n : Int) (c : CX) (W W' : World) : Prop where
  rd : Rd s ext r n W'
  cm : Cm c b W'
  tu : Turned (fun k => k = r ∨ k = b) W W'
theorem RC.move {s : ByteArray} {ext : Bool} {r b : Nat} {n m : Int} {c : CX} {W W' W'' : World} (h : RC s ext r b n c W W') (hrb : r ≠ b) (hm : Mv s ext r m W' W'') : RC s ext r b m c W W'' :=
  ⟨hm.rd, h.cm.turned hm.tu (Ne.symm hrb), h.tu.trans hm.tu fun _ _ h => .inl h⟩
theorem RC.start {s : ByteArray} {ext : Bool} {r b : Nat} {n : Int} {c : CX} {W : World} (h : Rd s ext r n W) (hc : Cm c b W) : RC s ext r b n c W W := ⟨h, hc, Turned.refl _ _⟩
theorem RC.set {s : ByteArray} {ext : Bool} {r b : Nat} {n : Int} {c : CX} {W W' : World} (h : RC s ext r b n c W W') (hrb : r ≠ b) (j : Nat) (v : Value) (c' : CX) (hc : c.cells.toArray.setIfInBounds j v = c'.cells.toArray) : RC s ext r b n c' W (W'.setCell ⟨b, j, none⟩ v) :=
  ⟨(heap_setCell_other W' _ r _ hrb).trans h.rd, h.cm.put j v c' hc, h.tu.put (.inr rfl) j v⟩
theorem RC.trans {s : ByteArray} {ext : Bool} {r b : Nat} {n m : Int} {c c' : CX} {W W' W'' : World} (h : RC s ext r b n c W W') (k : RC s ext r b m c' W' W'') : RC s ext r b m c' W W'' := ⟨k.rd, k.cm, h.tu.trans k.tu fun _ _ h => h⟩
theorem RC.below {s : ByteArray} {ext : Bool} {r b : Nat} {n : Int} {c : CX} {W W' W'' : World} (h : RC s ext r b n c W W') (hb : Below W'.heap.size W' W'') : RC s ext r b n c W W'' := ⟨h.rd.stays hb, h.cm.stays hb, h.tu.trans (Turned.of_below (S := fun _ => False) hb) fun _ _ h => h.elim⟩
end Go.Proofs.Ytncbmdbfdjhkeaa
