/-
  Bytes in memory, the two sums over them, byte by byte, as pairs of numbers, and bytes among a call's arguments. Condition: the data are read as the arguments' reader reads them.
-/
import Derived.Test.YtpfdlcogldbocaaRows
import Derived.Test.YtpfdlcogldbocaaBase
import Derived.WalkKit
import Derived.ProofKit
import Derived.OpenShut
import Derived.Deep.Slices
import Derived.Deep.MidRow
import Derived.Deep.AppendLies
import Derived.Lib.Hide
import Derived.Deep.Draws
namespace Go.Proofs.Ytpfdlcogldbocaa
open Go.RowKit Go.ChangeShapes Go.WideShapes Go.Deep

def BytesAt (w : World) (A : Option Addr) (l : List UInt8) : Prop := ∀ i b, l[i]? = some b → ∃ g o, A = some ⟨g, o, none⟩ ∧ w.cell? ⟨g, o + i, none⟩ = some (byteV b)

theorem BytesAt.below {w w' : World} {A : Option Addr} {l : List UInt8} (h : BytesAt w A l) (hb : Below w.heap.size w w') : BytesAt w' A l := by
  intro i b hi
  obtain ⟨g, o, hA, hc⟩ := h i b hi
  refine ⟨g, o, hA, ?_⟩
  rw [World.cell?_of_block (hb.block g (World.block_lt_of_cell? _ _ hc))]
  exact hc
theorem BytesAt.nil (w : World) (A : Option Addr) : BytesAt w A [] := fun i b hb => by simp at hb
theorem BytesAt.of_range {w : World} {g o : Nat} {l : List UInt8} (h : w.rangeAt g o (bytesV l)) : BytesAt w (some ⟨g, o, Option.none⟩) l := by
  intro i b hi
  refine ⟨g, o, rfl, h i _ ?_⟩
  simp [bytesV, hi]

/-! ### the two sums -/
def fst1 (p : Nat × Nat) (b : UInt8) : Nat × Nat := ((p.1 + b.toNat) % 65521, (p.2 + (p.1 + b.toNat) % 65521) % 65521)
def fwalk (p : Nat × Nat) (l : List UInt8) : Nat × Nat := l.foldl fst1 p
def fbegin (s : Nat) : Nat × Nat := (s % 65536 % 65521, s / 65536 % 65521)
def fend (p : Nat × Nat) : Nat := p.2 * 65536 + p.1
def more (s : Nat) (l : List UInt8) : Nat := fend (fwalk (fbegin s) l)
def P2 (p : Nat × Nat) : Prop := p.1 < 65521 ∧ p.2 < 65521

theorem fst1_lt (p : Nat × Nat) (b : UInt8) : P2 (fst1 p b) := ⟨Nat.mod_lt _ (by omega), Nat.mod_lt _ (by omega)⟩
theorem fwalk_lt : ∀ (l : List UInt8) (p : Nat × Nat), P2 p → P2 (fwalk p l)
  | [], _, h => h
  | b :: r, p, _ => fwalk_lt r (fst1 p b) (fst1_lt p b)
theorem fbegin_lt (s : Nat) : P2 (fbegin s) := ⟨Nat.mod_lt _ (by omega), Nat.mod_lt _ (by omega)⟩
theorem fwalk_append (p : Nat × Nat) (a b : List UInt8) : fwalk p (a ++ b) = fwalk (fwalk p a) b := by simp [fwalk]
theorem fwalk_take_succ (p : Nat × Nat) (l : List UInt8) (k : Nat) (b : UInt8) (h : l[k]? = some b) : fwalk p (l.take (k + 1)) = fst1 (fwalk p (l.take k)) b := by
  rw [List.take_add_one, h, fwalk_append]; rfl
theorem fend_begin (p : Nat × Nat) (h : P2 p) : fbegin (fend p) = p := by
  obtain ⟨a, b⟩ := p
  obtain ⟨h1, h2⟩ := h
  simp only at h1 h2
  unfold fbegin fend
  simp only
  have e1 : (b * 65536 + a) % 65536 = a := by omega
  have e2 : (b * 65536 + a) / 65536 = b := by omega
  rw [e1, e2, Nat.mod_eq_of_lt h1, Nat.mod_eq_of_lt h2]
theorem fend_inj (p q : Nat × Nat) (hp : P2 p) (hq : P2 q) (h : fend p = fend q) : p = q := by
  rw [← fend_begin p hp, ← fend_begin q hq, h]
theorem more_lt (s : Nat) (l : List UInt8) : more s l < 4294967296 := by
  have := fwalk_lt l _ (fbegin_lt s)
  unfold more fend
  unfold P2 at this
  omega
/-- Piece by piece. -/
theorem more_append (s : Nat) (a b : List UInt8) : more (more s a) b = more s (a ++ b) := by
  unfold more
  rw [fend_begin _ (fwalk_lt a _ (fbegin_lt s)), fwalk_append]

/-! ### bytes among the arguments -/
section
variable {H : Type} {enc : TypeId × Value → H} {w : World} {base : Nat} {held : Bool}
theorem cells_u8 : Try.prog.cellsOf 5 = 1 := by kernel_rfl

/-- An address that a cell is read at names no spot. -/
theorem plain_addr {a : Addr} {i : Nat} {v : Value} (h : ∀ j, j ≤ i → (w.cell? (a.add j)).isSome = true) (hv : w.cell? (a.add i) = some v) : ∃ g o, a = ⟨g, o, none⟩ ∧ w.cell? ⟨g, o + i, none⟩ = some v := by
  obtain ⟨g, o, sp⟩ := a
  have h0 := h 0 (Nat.zero_le _)
  have e0 : (⟨g, o, sp⟩ : Addr).add 0 = ⟨g, o, sp⟩ := rfl
  rw [e0] at h0
  cases sp with
  | none =>
    rw [Addr.add_mid] at hv
    exact ⟨g, o, rfl, hv⟩
  | some s =>
    unfold World.cell? at h0
    split at h0 <;> simp at h0

theorem open_bytes {fuel : Nat} {v : Value} {x : DataW H × List MemPlace} (h : DataW.trod enc Try.prog w base (fun _ => true) held fuel 39 [v] = some x) :
    ∃ A l cap, v = .slice A l.length cap ∧ BytesAt w A l ∧ l.length ≤ cap ∧ cap ≤ maxLen := by
  rcases open_ints Try.underlying39 Try.underlying5 cells_u8 h with ⟨hcs, _⟩ | ⟨a, len, cap, zs, hcs, _, hl, hm, hz, _, hcell, hwz⟩
  · refine ⟨none, [], 0, by simpa using hcs, fun i b hb => by simp at hb, Nat.le_refl _, by unfold maxLen; omega⟩
  · simp only [if_true] at hz
    have hv : v = .slice (some a) len cap := by simpa using hcs
    refine ⟨some a, (zs.take len).map fun z => UInt8.ofNat z.toNat, cap, ?_, ?_, ?_, hm⟩
    · rw [hv]; simp; omega
    · intro i b hb
      rw [List.getElem?_map, List.getElem?_take] at hb
      split at hb
      · rename_i hil
        have hiz : i < zs.length := by omega
        rw [List.getElem?_eq_getElem hiz] at hb
        simp only [Option.map_some, Option.some.injEq] at hb
        have hc := hcell i hiz
        obtain ⟨g, o, rfl, hgo⟩ := plain_addr (i := i) (fun j hj => by rw [hcell j (by omega)]; rfl) hc
        refine ⟨g, o, rfl, ?_⟩
        rw [hgo, ← hb]
        have hw := hwz zs[i] (List.getElem_mem _)
        have hr := bounds_u8 hw
        rw [List.getD_eq_getElem?_getD, List.getElem?_eq_getElem hiz]
        unfold byteV
        simp only [Option.getD_some]
        congr 2
        rw [UInt8.toNat_ofNat']
        omega
      · cases hb
    · simp; omega

theorem open_bytes_arg {r : Reach} {b0 : Nat} {v : Value} {d : DataW H} {p : List MemPlace} (hv : Value.okWide Try.prog w r b0 39 v) (h : DataW.Trod enc Try.prog w base (fun _ => true) held 39 v d p) :
    ∃ A l cap, v = .slice A l.length cap ∧ BytesAt w A l ∧ l.length ≤ cap ∧ cap ≤ maxLen := by
  obtain ⟨a0, len0, cap0, rfl⟩ := okWide_slice Try.underlying39 hv
  obtain ⟨fuel, hf⟩ := h
  obtain ⟨A, l, cap, e, rest⟩ := open_bytes (v := .slice a0 len0 cap0) (x := (d, p)) (by simpa [Value.cells] using hf)
  exact ⟨A, l, cap, e, rest⟩
end
end Go.Proofs.Ytpfdlcogldbocaa
