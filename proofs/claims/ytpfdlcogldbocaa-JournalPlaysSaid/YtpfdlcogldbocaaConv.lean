/-
  A block's bytes read as a text; bytes stay where nothing below turns. Condition: the bytes lie in memory.
-/
import Derived.Test.YtpfdlcogldbocaaOps
namespace Go.Proofs.Ytpfdlcogldbocaa
open Go.RowKit Go.Maps

theorem conv_at {A : Option Addr} {l : List UInt8} {cap : Nat} {w : World} (h : BytesAt w A l) (hl : 0 < l.length) : (convert 39 9 (.slice A l.length cap)).run Try.prog w = .ok (.string ⟨l.toArray⟩) w := by
  obtain ⟨g, o, rfl, _⟩ := h 0 l[0] (List.getElem?_eq_getElem hl)
  refine run_convert_bytes_back w 39 9 5 ⟨g, o, none⟩ cap l Try.underlying39 Try.underlying5 Try.underlying9 (fun j hj => ?_)
  obtain ⟨g', o', e, hc⟩ := h j l[j] (List.getElem?_eq_getElem hj)
  injection e with e
  rw [Addr.add_mid, (Addr.mk.inj e).1, (Addr.mk.inj e).2.1]
  exact hc
theorem bytesAt_blk {w : World} {g : Nat} {l : List UInt8} {t : TypeId} (h : w.heap[g]? = some (.cells (bytesV l).toArray t (0, 0))) : BytesAt w (some ⟨g, 0, none⟩) l := by
  intro i b hb
  refine ⟨g, 0, rfl, ?_⟩
  rw [cell_of_row w g (0 + i) _ _ _ h]
  simp [bytesV, hb]
theorem conv_blk {w : World} {g : Nat} {l : List UInt8} {t : TypeId} {cap : Nat} (h : w.heap[g]? = some (.cells (bytesV l).toArray t (0, 0))) (hl : l.length = 32) : (convert 39 9 (.slice (some ⟨g, 0, none⟩) 32 cap)).run Try.prog w = .ok (.string ⟨l.toArray⟩) w := by
  have := conv_at (cap := cap) (bytesAt_blk h) (by omega)
  rwa [hl] at this
theorem BytesAt.belowB {w w' : World} {A : Option Addr} {l : List UInt8} {B : Nat} (h : BytesAt w A l) (hb : Below B w w') (hB : w.heap.size ≤ B) : BytesAt w' A l := by
  intro i b hi
  obtain ⟨g, o, e, hc⟩ := h i b hi
  exact ⟨g, o, e, (hb.cell (p := ⟨g, o + i, none⟩) (Nat.lt_of_lt_of_le (World.block_lt_of_cell? w _ hc) hB)).trans hc⟩
theorem none32 : Blocks32 (fun _ => none) := fun _ _ h => by cases h
end Go.Proofs.Ytpfdlcogldbocaa
