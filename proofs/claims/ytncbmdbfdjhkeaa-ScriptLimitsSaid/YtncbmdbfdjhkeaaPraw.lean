/-
  Texts and rows of cells, what K01 leaves out. No condition.
-/
import Derived.Test.YtncbmdbfdjhkeaaK01
import Derived.WalkKit
import Derived.ProofKit
import Derived.Deep.MidRow
import Derived.Deep.AppendLies
import Derived.Deep.Draws
import Derived.Lib.Hide
import Derived.Lib.SmallJoins
import Derived.Lib.AppendZeros
import Derived.Laws.OwnMore
import Derived.Laws.Strings2
import Derived.Laws.Strings3
import Derived.WalkSpells
namespace Go.Proofs.Ytncbmdbfdjhkeaa
open Go.RowKit Go.Deep
theorem txt_inj {a b : List UInt8} (h : txt a = txt b) : a = b := by
  have := congrArg (fun s : ByteArray => s.data.toList) h
  simpa [txt] using this
theorem txt_append (a b : List UInt8) : txt a ++ txt b = txt (a ++ b) := by
  have : (txt a ++ txt b).data = (txt (a ++ b)).data := by simp [txt, ByteArray.data_append]
  cases h : txt a ++ txt b
  rw [h] at this
  simp only at this
  rw [this]
theorem str_slice_from {s : ByteArray} {l : List UInt8} (hs : s = txt l) {a : Nat} (h1 : a ≤ l.length) (W : World) : (Instr.slice 9 (.string s) (some (.int .i64 (a : Int))) none none).run Try.prog W = .ok (.string (txt (l.drop a))) W := by
  have h := run_slice_string_from_if (P := Try.prog) W 9 s .i64 (a : Int) Try.underlying9
  rw [if_pos ⟨by omega, by rw [hs, size_txt]; omega⟩] at h
  rw [h, hs, Int.toNat_natCast, size_txt, txt_extract, List.take_length]
theorem str_slice_to {s : ByteArray} {l : List UInt8} (hs : s = txt l) {b : Nat} (h1 : b ≤ l.length) (W : World) : (Instr.slice 9 (.string s) none (some (.int .i64 (b : Int))) none).run Try.prog W = .ok (.string (txt (l.take b))) W := by
  have h := run_slice_string_to_if (P := Try.prog) W 9 s .i64 (b : Int) Try.underlying9
  rw [if_pos ⟨by omega, by rw [hs, size_txt]; omega⟩] at h
  rw [h, hs, Int.toNat_natCast, txt_extract, List.drop_zero]
/-- A text's byte, as the walk reads it. -/
theorem txt_get {s : ByteArray} {l : List UInt8} (hs : s = txt l) (i : Nat) (h : i < s.size) : l[i]? = some s[i] := by
  subst hs
  have : i < l.length := by rw [size_txt] at h; exact h
  rw [List.getElem?_eq_getElem this]
  rfl

/-- A part of a row, as reslicing gives it. -/
theorem sliced_part {w : World} {A : Option Addr} {vs : List Value} (h : RawAt w A vs) {l n c sz : Nat} (hl : l ≤ n) (hc : n ≤ c) (hv : vs.length = n * sz) (b : Nat) (hb : b ≤ n) (hlb : l ≤ b) :
    ∃ B, sliced A l b c sz = .slice B (b - l) (c - l) ∧ RawAt w B ((vs.take (b * sz)).drop (l * sz)) ∧ ((vs.take (b * sz)).drop (l * sz)).length = (b - l) * sz ∧ b - l ≤ c - l := by
  have hlen : ((vs.take (b * sz)).drop (l * sz)).length = (b - l) * sz := by
    rw [List.length_drop, List.length_take, hv, Nat.min_eq_left (Nat.mul_le_mul_right _ hb), Nat.sub_mul]
  by_cases he : c = l
  · refine ⟨A, by unfold sliced; rw [if_pos he], .inl ?_, hlen, by omega⟩
    apply List.eq_nil_of_length_eq_zero
    rw [hlen, show b - l = 0 by omega, Nat.zero_mul]
  · exact ⟨A.map (·.add (l * sz)), by unfold sliced; rw [if_neg he], (h.take (b * sz)).drop (l * sz), hlen, by omega⟩
theorem bW (w : World) (o : Obj) : Below w.heap.size w (w.alloc o) := (Below.refl _ w).alloc (Nat.le_refl _) o
theorem bD (w : World) (n : Nat) : Below w.heap.size w (w.drewN n) := ⟨rfl, rfl, rfl, Nat.le_refl _, fun _ _ => rfl⟩
end Go.Proofs.Ytncbmdbfdjhkeaa
