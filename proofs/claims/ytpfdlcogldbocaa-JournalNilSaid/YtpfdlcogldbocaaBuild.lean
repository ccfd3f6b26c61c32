/-
  A call of package disk built out of its parts, a slice of one call, a block stored into a block that was just made. Condition: a block has 32 bytes.
-/
import Derived.Test.YtpfdlcogldbocaaDisk
import Derived.Deep.WholeRow
namespace Go.Proofs.Ytpfdlcogldbocaa
open Go.RowKit Go.Maps

theorem list_of_range (l : List UInt8) (n : Nat) (h : l.length = n) : l = (List.range n).map (fun i => l.getD i 0) := by
  apply List.ext_getElem?
  intro i
  simp only [List.getElem?_map, List.getD_eq_getElem?_getD]
  by_cases hi : i < n
  · have e : l[i]? = some l[i] := List.getElem?_eq_getElem (by omega)
    rw [List.getElem?_range hi, e]; simp [e]
  · rw [List.getElem?_eq_none (by omega), List.getElem?_eq_none (by simp; omega)]; rfl

theorem run_build_call (x : Int) (l : List UInt8) (h : l.length = 32) (w : World) :
    (Instr.build 86 #[(1, .int .i64 x), (2, .agg (bytesV l).toArray)]).run Try.prog w = .ok (.agg (CallM.cells ⟨false, x, l⟩).toArray) w := by
  have key : ∀ g : Nat → UInt8, (Instr.build 86 #[(1, .int .i64 x), (2, .agg (bytesV ((List.range 32).map g)).toArray)]).run Try.prog w = .ok (.agg (CallM.cells ⟨false, x, (List.range 32).map g⟩).toArray) w := fun g => by kernel_rfl
  have h1 := key (fun i => l.getD i 0)
  rwa [← list_of_range l 32 h] at h1
theorem run_build_sync (w : World) : (Instr.build 86 #[(0, .bool true)]).run Try.prog w = .ok (.agg (CallM.cells syncM).toArray) w := by kernel_rfl

theorem run_slice_call (c : CallM) (h : c.ok) (w : World) :
    (Instr.buildSlice 82 1 #[(0, .agg c.cells.toArray)]).run Try.prog w = .ok (.slice (some ⟨w.heap.size, 0, none⟩) 1 1) (w.alloc (.cells c.cells.toArray 86)) := by
  obtain ⟨s, n, l⟩ := c
  have hl : l.length = 32 := h.1
  have key : ∀ g : Nat → UInt8, (Instr.buildSlice 82 1 #[(0, .agg (CallM.cells ⟨s, n, (List.range 32).map g⟩).toArray)]).run Try.prog w = .ok (.slice (some ⟨w.heap.size, 0, none⟩) 1 1) (w.alloc (.cells (CallM.cells ⟨s, n, (List.range 32).map g⟩).toArray 86)) := fun g => by kernel_rfl
  have h1 := key (fun i => l.getD i 0)
  rwa [← list_of_range l 32 hl] at h1

/-! ### as the walk spells them -/
abbrev z34 (x : Int) : Array Value := #[Value.bool false, Value.int IntKind.i64 x, Value.int IntKind.u8 0, Value.int IntKind.u8 0, Value.int IntKind.u8 0, Value.int IntKind.u8 0, Value.int IntKind.u8 0, Value.int IntKind.u8 0, Value.int IntKind.u8 0, Value.int IntKind.u8 0, Value.int IntKind.u8 0, Value.int IntKind.u8 0, Value.int IntKind.u8 0, Value.int IntKind.u8 0, Value.int IntKind.u8 0, Value.int IntKind.u8 0, Value.int IntKind.u8 0, Value.int IntKind.u8 0, Value.int IntKind.u8 0, Value.int IntKind.u8 0, Value.int IntKind.u8 0, Value.int IntKind.u8 0, Value.int IntKind.u8 0, Value.int IntKind.u8 0, Value.int IntKind.u8 0, Value.int IntKind.u8 0, Value.int IntKind.u8 0, Value.int IntKind.u8 0, Value.int IntKind.u8 0, Value.int IntKind.u8 0, Value.int IntKind.u8 0, Value.int IntKind.u8 0, Value.int IntKind.u8 0, Value.int IntKind.u8 0]
theorem fold_call (x : Int) (l : List UInt8) (hl : l.length = 32) : List.foldl (fun (cs : Array Value) (x : Value × Nat) => cs.setIfInBounds (2 + x.snd) x.fst) (z34 x) (bytesV l).zipIdx = (CallM.cells ⟨false, x, l⟩).toArray := by
  have key : ∀ g : Nat → UInt8, List.foldl (fun (cs : Array Value) (x : Value × Nat) => cs.setIfInBounds (2 + x.snd) x.fst) (z34 x) (bytesV ((List.range 32).map g)).zipIdx = (CallM.cells ⟨false, x, (List.range 32).map g⟩).toArray := fun g => by kernel_rfl
  have h1 := key (fun i => l.getD i 0)
  rwa [← list_of_range l 32 hl] at h1
theorem fold_cells (c : CallM) (h : c.ok) : List.foldl (fun (cs : Array Value) (x : Value × Nat) => cs.setIfInBounds x.snd x.fst) (z34 0) c.cells.zipIdx = c.cells.toArray := by
  obtain ⟨s, n, l⟩ := c
  have hl : l.length = 32 := h.1
  have key : ∀ g : Nat → UInt8, List.foldl (fun (cs : Array Value) (x : Value × Nat) => cs.setIfInBounds x.snd x.fst) (z34 0) (CallM.cells ⟨s, n, (List.range 32).map g⟩).zipIdx = (CallM.cells ⟨s, n, (List.range 32).map g⟩).toArray := fun g => by kernel_rfl
  have h1 := key (fun i => l.getD i 0)
  rwa [← list_of_range l 32 hl] at h1
end Go.Proofs.Ytpfdlcogldbocaa
