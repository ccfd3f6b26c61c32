/-
  A row of bytes that a call makes byte by byte, and the string of it; what stands in a text up to a delimiter. Condition: a text of at most 2^20 bytes.
-/
import Derived.Test.YtncbmdbfdjhkeaaTkblk
import Derived.Test.YtncbmdbfdjhkeaaPraw
import Derived.Laws.BytesString
import Derived.Lib.ConvBytes
namespace Go.Proofs.Ytncbmdbfdjhkeaa
open Go.RowKit Go.Deep

def byteV (b : UInt8) : Value := .int .u8 (b.toNat : Int)
def bytesV (l : List UInt8) : List Value := l.map byteV
theorem length_bytesV (l : List UInt8) : (bytesV l).length = l.length := by simp [bytesV]
theorem bytesV_append (a b : List UInt8) : bytesV (a ++ b) = bytesV a ++ bytesV b := by simp [bytesV]
theorem elem_u8 : ElemOf 29 5 1 1 := by
  obtain ⟨i, hi, hz, hs, hb⟩ := info_parts (t := 5) (z := .int .u8 0) (s := 1) (b := 1) (by kernel_rfl)
  exact ⟨Try.underlying29, ⟨i, _, hi, hz, hs, hb, rfl⟩, by omega, by omega⟩
/-- The bytes gathered so far, in a row of the call's own, at worlds behind w. -/
structure Buf (w wr : World) (v : Value) (b : List UInt8) : Prop where
  own : wr.ownsRow w.heap.size 5 1 v b.length (bytesV b)
  below : Below w.heap.size w wr
theorem Buf.start (w : World) : Buf w w (.slice none 0 0) [] := ⟨World.ownsRow_nil _ _ _ _, Below.refl _ _⟩
theorem wpList_put {ops : Array Oper} {rest : List Oper} {a : Act} {Q : Exit → Act → World → Prop} {s x : Operand} {ps : String} {af : Array Edge} {w wr : World} {v : Value} {b : List UInt8} (d : Tmp) (c : UInt8) (hI : Buf w wr v b) {n : Int} (hc : n = (c.toNat : Int))
    (hs : a.eval s = v) (hx : a.eval x = .slice (some ⟨wr.heap.size, 0, none⟩) 1 1) (hn : b.length + 1 ≤ 1099511627776)
    (h : ∀ v' w', Buf w w' v' (b ++ [c]) → wpList Try.prog ops Q rest (a.put (some d) v') w') :
    wpList Try.prog ops Q ({ dst := some d, op := .call { callee := .builtin .append, args := #[s, x], argTypes := #[29, 29] }, type := 29, pos := ps, after := af, guard := none } :: rest) a (wr.alloc (.cells #[.int .u8 n] 5)) := by
  subst hc
  change wpList _ _ _ _ _ (wr.alloc (.cells #[byteV c] 5))
  have hnew : (wr.alloc (.cells #[byteV c] 5)).heap[wr.heap.size]? = some (.cells #[byteV c] 5) := heap_alloc_new wr _
  have hba : Below wr.heap.size wr (wr.alloc (.cells #[byteV c] 5)) := (Below.refl _ _).alloc (Nat.le_refl _) _
  have hsz := hI.below.size
  refine wpList_append_raw d (bytesV [c]) elem_u8 (ownsRow_turned hI.own (Turned.of_below (S := fun _ => False) hba) (fun _ _ h => h)) (.inr ⟨_, 0, rfl, fun j u hu => ?_⟩) rfl (by intro u hu; simp [bytesV] at hu; subst hu; rfl) hs hx hn (by have := hba.size; omega) (fun v' w' ho ht hf => h v' w' ⟨?_, ?_⟩)
  · rw [Nat.zero_add, obj_cell hnew j]
    simpa [bytesV] using hu
  · rw [bytesV_append, List.length_append]
    exact ho
  · refine (hI.below.trans (hba.mono hsz)).trans (ht.below (by have := hba.size; omega) fun k hk => ?_)
    exact (World.ownsRow.lt hI.own k hk).1
/-- string(b). -/
theorem buf_text {w wr : World} {v : Value} {b : List UInt8} (h : Buf w wr v b) : (convert 29 9 v).run Try.prog wr = .ok (.string (txt b)) wr := by
  obtain ⟨A, c, rfl, hnc, hra, _⟩ := own_form h.own
  rcases hra with hra | ⟨g, o, rfl, hr⟩
  · have hb : b = [] := by
      have := congrArg List.length hra
      rw [length_bytesV] at this
      exact List.eq_nil_of_length_eq_zero this
    subst hb
    show (convert 29 9 (.slice A 0 c)).run Try.prog wr = _
    rw [run_convert_bytes_string wr 29 9 5 A 0 c Try.underlying29 Try.underlying5 Try.underlying9]
    have h0 : ∀ a : Addr, (loadCells a 0).run Try.prog wr = .ok #[] wr := fun a => by
      have := run_loadCells_list (P := Try.prog) wr a [] (fun j v hj => by simp at hj)
      simpa using this
    cases A with
    | none => simp [Conv.bytesToString]; rfl
    | some a => simp [Conv.bytesToString, h0]; rfl
  · refine run_convert_bytes_back (P := Try.prog) _ 29 9 5 ⟨g, o, none⟩ c b Try.underlying29 Try.underlying5 Try.underlying9 (fun j hj => ?_)
    rw [Addr.add_mid]
    exact hr j _ (by simp [bytesV, List.getElem?_eq_getElem hj, byteV])
end Go.Proofs.Ytncbmdbfdjhkeaa
