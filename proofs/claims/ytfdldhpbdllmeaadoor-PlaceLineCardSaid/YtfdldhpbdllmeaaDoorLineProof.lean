/-
  PlaceLine returns true for every three places, whatever their parts, and each argument reads afterwards as it read before. Conditions: those of the given row; the listed variables start as the program's text lays them (the card ties them).
-/
import Derived.Test.YtfdldhpbdllmeaaDoorCards
import Derived.Test.YtfdldhpbdllmeaaDoorTie
import Derived.Test.YtfdldhpbdllmeaaDoorLine
import Derived.Test.YtfdldhpbdllmeaaDoorArgs
import Derived.ProofKit
import Derived.OpenShut
import Derived.Lay
import Derived.SevenTiedAt
import Derived.ShutString
namespace Go.Proofs.YtfdldhpbdllmeaaDoor
open Go.ChangeShapes Go.WideShapes Go.ChangeAt Go.ChangeMaps Go.RowKit

theorem line_cells1 : Tryd.prog.cellsOf 22 = 1 := by kernel_rfl
theorem line_cells2 : Tryd.prog.cellsOf 23 = 2 := by kernel_rfl
theorem line_cells6 : Tryd.prog.cellsOf 40 = 6 := by kernel_rfl
theorem line_own : ownKnob Tryd.prog.godebug = none := by kernel_rfl

set_option maxRecDepth 100000 in
theorem line_lifted (os : Os) (started : os.Started) (H : Type) (enc : TypeId × Value → H) :
    ReturnsInHanded {} Tryd.checked os 7 .any (fun w args => (Rows.placeLineSpec.pre enc Tryd.prog Tryd.f7 [] false w args ∧ laidMetH Tryd.prog Rows.placeLineRow.laid w) ∧ sizedMet enc Tryd.prog Tryd.f7 (OpenSpec.ofChange Rows.placeLineSpec) false w args)
      (Rows.placeLineSpec.post enc Tryd.prog Tryd.f7 false true false false) := by
  refine returnsInHanded_of_change_and (C := Tryd.checked) (X := fun w _ => laidMetH Tryd.prog Rows.placeLineRow.laid w) (fun _ _ _ hh h => h.of_heap hh) line_own started (by kernel_rfl) Tryd.func7
    (ChangeSpec.witness_shaped (enc := enc) (C := Tryd.checked) (os := os) (X := fun w _ => laidMetH Tryd.prog Rows.placeLineRow.laid w) false (World.laidAll Tryd.prog os Rows.placeLineRow.laid) #[.agg #[.float .f64 0, .float .f64 0, .float .f64 0, .float .f64 0, .float .f64 0, .float .f64 0]] 8 (World.laidAll_os _ _ _)
      (World.shaped_of_ZipB (by kernel_rfl) (by kernel_rfl)) (by kernel_rfl) (by kernel_rfl) (by kernel_rfl)
      (by rw [MakeChecks.laidMetH_plain _ _ _ (by kernel_rfl)]; exact laidMet_laidAll _ (by kernel_rfl) (by kernel_rfl))) ?_
  intro W base args ds gs before hval0 hW _ _ hL _
  have hval : ∀ (j : Nat) t v, Tryd.f7.params[j]? = some t → args[j]? = some v → Value.okWide Tryd.prog W .any base t v := hval0
  have hW' := hW
  obtain ⟨p, q, hA0, hV, rfl, _, _⟩ := hW
  have hA : DataW.TrodAll enc Tryd.prog W 0 (fun _ => true) true Tryd.f7.params.toList args.toList ds p := hA0
  rw [Tryd.params7] at hA hval
  obtain ⟨v0, d0, rfl, rfl, h0⟩ := trodAll_one hA
  obtain ⟨rfl, rfl⟩ := trodVars_none hV
  obtain ⟨a0, a1, b0, b1, c0, c1, rfl, rfl, rfl, w1, w2, w3, w4, w5, w6⟩ := open_f32 Tryd.underlying40 Tryd.underlying23 Tryd.underlying22 line_cells1 line_cells2 line_cells6 (hval 0 40 v0 rfl rfl) h0
  clear hA0 hval0
  simp only [List.append_nil] at hW'
  refine (line_any a0 a1 b0 b1 c0 c1 W).mono fun e W' ⟨he, hb⟩ => ?_
  subst he
  exact ⟨_, rfl, _, _, _, [], [], [], hW', trodAll_mk1 (shut_bool Tryd.underlying4 _), trodAll_mk1 (shut_f32 Tryd.underlying40 Tryd.underlying23 Tryd.underlying22 line_cells1 line_cells2 line_cells6 w1 w2 w3 w4 w5 w6), rfl, hb.frame _, fun h => by cases h⟩

theorem line_said : Rows.PlaceLineSaid :=
  OpenClaim.holds_of_wide 7 Tryd.f7 rfl rfl rfl rfl rfl rfl rfl ⟨rfl, rfl, rfl, rfl, rfl⟩ rfl rfl rfl rfl rfl (by kernel_rfl) Tryd.func7 (by kernel_rfl)
    (of_decide_eq_true (by kernel_rfl)) (by unfold Func.isWrapper; first | (rw [if_pos (by decide +kernel)]; kernel_rfl) | (rw [if_neg (by decide +kernel)]; exact ⟨rfl, rfl⟩))
    (fun os started H enc _ => line_lifted os started H enc)

theorem line_plain (f : FuncId) (fn : Func) (hf : Tryd.pinned.checked.prog.funcNamed "headgate/headgatelaw01.PlaceLine" = some f) (hfn : Tryd.pinned.checked.prog.funcs[f]? = some fn) :
    false = Tryd.pinned.checked.prog.looks [] ∧ ∀ (j : Nat) t, fn.params[j]? = some t → Tryd.pinned.checked.prog.wantsStandIn t = false := by
  obtain rfl : f = 7 := Option.some.inj ((show Tryd.prog.funcNamed "headgate/headgatelaw01.PlaceLine" = some 7 by kernel_rfl).symm.trans hf) |>.symm
  obtain rfl : fn = Tryd.f7 := (Option.some.inj (Tryd.func7.symm.trans hfn)).symm
  refine ⟨by kernel_rfl, fun j t ht => ?_⟩
  rw [Tryd.params7] at ht
  have hm := Array.mem_of_getElem? ht
  simp only [List.mem_toArray, List.mem_cons, List.not_mem_nil, or_false] at hm
  subst hm
  exact (show Tryd.prog.wantsStandIn 40 = false by kernel_rfl)

/-- THE CARD OF PlaceLine. -/
theorem placeLine_holds : Rows.PlaceLineCardSaid :=
  Claim7.holds_tied_plain_at .later [] _ _ _ _ line_said (fun _ h => by cases h) (by kernel_rfl) (fun _ h => by cases h) placeLine_row_tie rfl ⟨rfl, rfl⟩ (by kernel_rfl) rfl line_plain (by kernel_rfl)
end Go.Proofs.YtfdldhpbdllmeaaDoor
