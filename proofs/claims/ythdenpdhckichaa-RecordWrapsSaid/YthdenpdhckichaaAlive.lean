/-
  The live question answers true and touches nothing that was there. No condition.
-/
import Derived.Test.YthdenpdhckichaaRefTake2
import Derived.Lib.SlBytesConst
import Derived.Laws.BytesArg
namespace Go.Proofs.Ythdenpdhckichaa
open Go.RowKit Go.Deep

def AliveWrap (w : World) (e : Ending) (w' : World) : Prop :=
  ∃ g c, e = .returned (.tuple #[.slice (some ⟨g, 0, none⟩) 9 c, .int .i64 0]) ∧ w'.cell? ⟨g, 0, none⟩ = some (.int .u8 167) ∧ w'.cell? ⟨g, 1, none⟩ = some (.int .u8 1) ∧ w'.cell? ⟨g, 2, none⟩ = some (.int .u8 0) ∧ Below w.heap.size w w'

theorem alive_wrap (w : World) : Calls Try.prog 10 #[.slice (some ⟨w.heap.size, 0, none⟩) 2 2] (w.alloc (.cells #[.int .u8 104, .int .u8 105] 5 (2, 3))) (AliveWrap w) := by
  have h := wrap_ok (some ⟨w.heap.size, 0, none⟩) [104, 105] 2 (w.alloc (.cells #[.int .u8 104, .int .u8 105] 5 (2, 3))) (BytesAt.lit rfl) ⟨by decide, by decide⟩
  refine h.mono fun e w' hh => ?_
  obtain ⟨v, rfl, g, n, c, rfl, hn, ho, hb⟩ := hh
  rw [length_frame] at hn
  have hn9 : n = 9 := hn
  subst hn9
  exact ⟨g, c, rfl, ho.cell 0 167 rfl, ho.cell 1 1 rfl, ho.cell 2 0 rfl, ((Below.refl _ w).alloc (Nat.le_refl _) _).trans (hb.mono (by simp))⟩

theorem alive_any (w : World) : Calls Try.prog 9 #[] w fun e w' => e = .returned (.bool true) ∧ Below w.heap.size w w' := by
  have kc := fun (C : Array Value) (n c : Nat) => Lib.run_convert_bytes_const (P := Try.prog) w 22 5 C n c Try.underlying22 Try.underlying5
  have H := Lib.hid (alive_wrap w)
  go_enter Try.func9, Try.ntmps9
  go_wp2_with fail
  go_at_call 10
  (with_reducible refine (H.out).mono ?_)
  rintro e w' ⟨g, c, rfl, h0, h1, h2, hb⟩
  have HB := Lib.hid hb
  clear hb
  go_wp2_with fail
  go_ret
  exact ⟨rfl, HB.out⟩
end Go.Proofs.Ythdenpdhckichaa
