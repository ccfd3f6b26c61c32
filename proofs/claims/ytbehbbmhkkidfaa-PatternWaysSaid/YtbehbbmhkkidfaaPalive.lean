/-
  The live question of package pattern. Conditions: the world holds what strings.Index asks.
  PatternRight. Conditions: the world holds what strings.Index asks.
-/
import Derived.Test.YtbehbbmhkkidfaaPsize
import Derived.Test.YtbehbbmhkkidfaaPbk
namespace Go.Proofs.Ytbehbbmhkkidfaa
open Go.RowKit Go.Deep

def abT : PN := .mk 2 noS 0 0 0 [.mk 4 noS 0 (-1) 0 [.mk 1 (withS noS 97 97) 0 0 0 []], .mk 1 (withS noS 98 98) 0 0 0 []]
theorem ab_parse (bk : BkF) : parseP bk false [97, 42, 98] = some abT := by kernel_rfl
theorem ab_sized : Sized abT 4 :=
  .mk _ _ _ _ _ _ 3 (by decide) (.cons (a := 2) (b := 1) (.mk _ _ _ _ _ _ 1 (by decide) (.cons (a := 1) (b := 0) (.mk _ _ _ _ _ _ 0 (by decide) .nil) .nil)) (.cons (a := 1) (b := 0) (.mk _ _ _ _ _ _ 0 (by decide) .nil) .nil))
set_option maxRecDepth 100000 in
theorem alive_is (w : World) (hM : MaxAt w) : Calls Try.prog 7 #[] w (TrueC w) := by
  have h := parse_of ⟨#[97, 42, 98]⟩ false w hM
  rw [show parseP bkOf false (⟨#[97, 42, 98]⟩ : ByteArray).data.toList = some abT from ab_parse bkOf] at h
  have HP := Lib.hid h
  clear h hM
  go_enter Try.func7, Try.ntmps7
  go_wp2_with fail
  go_at_call 8
  refine HP.out.mono ?_
  rintro e w1 ⟨y, rfl, hy, hb1⟩
  have HS := Lib.hid (size_is ab_sized (by decide) _ _ y (hy.stays (bA w1 (.cells #[.int .i64 y.kind, .int .u64 (y.set 0), .int .u64 (y.set 1), .int .u64 (y.set 2), .int .u64 (y.set 3), .int .i64 y.lo, .int .i64 y.hi, .int .i64 y.num, .slice y.A y.n y.c] 30))))
  rw [NV.v_eq] at HS ⊢
  cases hy with
  | mk xs hl hc hr hk =>
    obtain ⟨x, r, rfl⟩ : ∃ x r, xs = x :: r := by
      cases xs with
      | nil => simp at hl
      | cons x r => exact ⟨x, r, rfl⟩
    obtain ⟨b, o, he, hbl, hcs⟩ := off_at hr (by simp)
    cases he
    have hx := hk 0 _ x rfl rfl
    obtain ⟨m0, _, _, _, _, _, m6, _, _⟩ := hcs 0 x rfl
    rw [Nat.zero_mul, Nat.add_zero] at m0 m6
    cases hx
    have HB := Lib.hid hb1
    clear hb1 hcs hk hr hl hc
    simp only [List.length_cons, List.length_nil, Nat.zero_add, Nat.reduceAdd] at HS m0 m6 ⊢
    go_wp2_with fail
    go_at_call 14
    refine HS.out.mono ?_
    rintro e w2 ⟨rfl, hb2⟩
    have HB2 := Lib.hid ((HB.out.alloc HB.out.size _).trans (hb2.mono (by have := HB.out.size; rw [World.size_alloc]; omega)))
    clear hb2
    go_wp2_with fail
    go_ret
    exact ⟨rfl, HB2.out⟩
end Go.Proofs.Ytbehbbmhkkidfaa
