/-
  The live question of the laws of package token. No condition.
-/
import Derived.Test.YtkgpicalbpimdaaTkcut
namespace Go.Proofs.Ytkgpicalbpimdaa
open Go.RowKit Go.Deep

def Alv (w : World) (e : Ending) (w' : World) : Prop := e = .returned (.bool true) ∧ Below w.heap.size w w'
set_option maxRecDepth 100000 in
theorem alive_is (w : World) : Calls Try.prog 10 #[] w (Alv w) := by
  have HC : Hid (∀ W : World, Calls Try.prog 11 #[.string ⟨#[47, 97, 92, 47, 98, 47, 120]⟩, .int .i64 1, .int .u8 47, .bool false] W fun e w' => e = .returned (.tuple #[.string ⟨#[97, 47, 98]⟩, .int .i64 6, .int .i64 0]) ∧ Below W.heap.size W w') := Lib.hid fun W => by
    have h := cut_is ⟨#[47, 97, 92, 47, 98, 47, 120]⟩ (by decide) 1 47 false W
    have e : cutG 47 false (⟨#[47, 97, 92, 47, 98, 47, 120]⟩ : ByteArray).data.toList 1 = some ([97, 47, 98], 6) := by decide
    rw [e] at h
    exact h
  have HBL : Hid (∀ W : World, Calls Try.prog 21 #[.string ⟨#[32, 32, 120]⟩, .int .i64 0] W fun e w' => e = .returned (.int .i64 2) ∧ w' = W) := Lib.hid fun W => by
    have h := blanks_is ⟨#[32, 32, 120]⟩ (by decide) 0 W
    have e : blanksF (⟨#[32, 32, 120]⟩ : ByteArray).data.toList 0 = 2 := by decide
    rw [e] at h
    exact h
  have HB0 := Lib.hid (Below.refl w.heap.size w)
  unfold Alv
  go_enter Try.func10, Try.ntmps10
  go_wp2_with fail
  go_at_call 11
  refine (HC.out _).mono ?_
  rintro e w1 ⟨rfl, hb⟩
  have HB1 := Lib.hid (HB0.out.trans (hb.mono HB0.out.size))
  clear hb
  go_wp2_with fail
  go_at_call 21
  refine (HBL.out _).mono ?_
  rintro e w2 ⟨rfl, rfl⟩
  go_wp2_with fail
  go_ret
  exact ⟨rfl, HB1.out⟩
end Go.Proofs.Ytkgpicalbpimdaa
