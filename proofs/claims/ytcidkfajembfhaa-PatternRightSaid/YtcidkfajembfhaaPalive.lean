/-
  The live question of package pattern. Conditions: the world holds what strings.Index asks.
  PatternRight. Conditions: the world holds what strings.Index asks.
-/
import Derived.Test.YtcidkfajembfhaaPsize
import Derived.Test.YtcidkfajembfhaaPbk
namespace Go.Proofs.Ytcidkfajembfhaa
open Go.RowKit Go.Deep

def abT : PN := .mk 2 noS 0 0 0 [.mk 4 noS 0 (-1) 0 [.mk 1 (withS noS 97 97) 0 0 0 []], .mk 1 (withS noS 98 98) 0 0 0 []]
theorem ab_parse (bk : BkF) : parseP bk false [97, 42, 98] = some abT := by kernel_rfl
theorem ab_sized : Sized abT 4 :=
  .mk _ _ _ _ _ _ 3 (by decide) (.cons (a := 2) (b := 1) (.mk _ _ _ _ _ _ 1 (by decide) (.cons (a := 1) (b := 0) (.mk _ _ _ _ _ _ 0 (by decide) .nil) .nil)) (.cons (a := 1) (b := 0) (.mk _ _ _ _ _ _ 0 (by decide) .nil) .nil))
set_option maxRecDepth 100000 in
theorem alive_is (w : World) (hM : MaxAt w) : Calls Try.prog 8 #[] w (TrueC w) := by
  have h := parse_of ⟨#[97, 42, 98]⟩ false w hM
  rw [show parseP bkOf false (⟨#[97, 42, 98]⟩ : ByteArray).data.toList = some abT from ab_parse bkOf] at h
  have HP := Lib.hid h
  clear h hM
  go_enter Try.func8, Try.ntmps8
  go_wp2_with fail
  go_at_call 9
  refine HP.out.mono ?_
  rintro e w1 ⟨y, rfl, hy, hb1⟩
  have HS := Lib.hid (size_is ab_sized (by decide) _ _ y (hy.stays (bA w1 (.cells #[.int .i64 y.kind, .int .u64 (y.set 0), .int .u64 (y.set 1), .int .u64 (y.set 2), .int .u64 (y.set 3), .int .i64 y.lo, .int .i64 y.hi, .int .i64 y.num, .slice y.A y.n y.c] 29))))
  rw [NV.v_eq] at HS ⊢
  cases hy with
  | mk xs hl hc hr hk =>
    obtain ⟨x, r, rfl⟩ : ∃ x r, xs = x :: r := by
      cases xs with
      | nil => simp at hl
      | cons x r => exact ⟨x, r, rfl⟩
    obtain ⟨b, o, he, hbl, hcs⟩ := off_at hr (by simp)
    cases he
    have hx := hk 0 _ x rfl rfl
    obtain ⟨m0, _, _, _, _, _, m6, _, _⟩ := hcs 0 x rfl
    rw [Nat.zero_mul, Nat.add_zero] at m0 m6
    cases hx
    have HB := Lib.hid hb1
    clear hb1 hcs hk hr hl hc
    simp only [List.length_cons, List.length_nil, Nat.zero_add, Nat.reduceAdd] at HS m0 m6 ⊢
    go_wp2_with fail
    go_at_call 12
    refine HS.out.mono ?_
    rintro e w2 ⟨rfl, hb2⟩
    have HB2 := Lib.hid ((HB.out.alloc HB.out.size _).trans (hb2.mono (by have := HB.out.size; rw [World.size_alloc]; omega)))
    clear hb2
    go_wp2_with fail
    go_ret
    exact ⟨rfl, HB2.out⟩
end Go.Proofs.Ytcidkfajembfhaa

namespace Go.Proofs.Ytcidkfajembfhaa
open Go.RowKit Go.Deep

set_option maxRecDepth 100000 in
set_option maxHeartbeats 1000000 in
theorem right_nat (s : ByteArray) (ext : Bool) (w : World) (hM : MaxAt w) : Calls Try.prog 6 #[.string s, .bool ext] w (TrueC w) := by
  have HA := Lib.hid fun (W : World) (hW : Below w.heap.size w W) => alive_is W (hM.below hW)
  by_cases hz : 300 < s.size
  · have d : decide ((s.size : Int) > 300) = true := decide_eq_true (by omega)
    clear hz
    go_enter Try.func6, Try.ntmps6
    go_wp2_with fail
    go_at_call 8
    refine (HA.out _ (Below.refl _ w)).mono ?_
    rintro e w1 ⟨rfl, hb⟩
    have HB := Lib.hid hb
    clear hb
    go_wp2_with fail
    go_ret
    exact ⟨rfl, HB.out⟩
  · have d : decide ((s.size : Int) > 300) = false := decide_eq_false (by omega)
    have HP := Lib.hid (parse_of s ext w hM)
    have HRT := Lib.hid fun n => right_of (bk := bkOf) (ext := ext) (l := s.data.toList) (n := n)
    obtain ⟨R, hR⟩ : ∃ R, R = parseP bkOf ext s.data.toList := ⟨_, rfl⟩
    rw [← hR] at HP HRT
    have HLEN := Lib.hid (show s.data.toList.length = s.size by simp)
    clear hz hR
    go_enter Try.func6, Try.ntmps6
    go_wp2_with fail
    go_at_call 9
    refine HP.out.mono ?_
    intro e w1 hans
    cases hx : R with
    | none =>
      rw [hx] at hans
      obtain ⟨rfl, hb1⟩ := hans
      have HB1 := Lib.hid hb1
      clear hb1
      go_wp2_with fail
      go_at_call 8
      refine (HA.out _ (HB1.out.alloc HB1.out.size _)).mono ?_
      rintro e w2 ⟨rfl, hb2⟩
      obtain ⟨⟨c0, c1, c2, c3, c4, c5, c6, c7, c8⟩, _⟩ := box9 (Below.obj hb2 (new_obj w1 _) (by rw [World.size_alloc]; omega))
      have HB2 := Lib.hid ((HB1.out.alloc HB1.out.size _).trans (hb2.mono (by have := HB1.out.size; rw [World.size_alloc]; omega)))
      clear hb2
      go_wp2_with fail
      go_ret
      exact ⟨rfl, HB2.out⟩
    | some n =>
      rw [hx] at hans
      obtain ⟨y, rfl, hy, hb1⟩ := hans
      obtain ⟨hs0, hs2, g, hg9, hrt⟩ := HRT.out n hx
      rw [HLEN.out] at hs0 hs2
      have d0 : decide ((s.size : Int) > 0) = true := decide_eq_true (by omega)
      have d2 : decide ((s.size : Int) ≤ 200) = true := decide_eq_true (by omega)
      have d9 : decide ((g : Int) ≤ 9) = true := decide_eq_true (by omega)
      have d00 : decide (0 < s.size) = true := decide_eq_true hs0
      have hb1' := hb1
      have HW := Lib.hid ((right_is hrt).2 (by omega) _ _ y (hy.stays (bA w1 (.cells #[.int .i64 y.kind, .int .u64 (y.set 0), .int .u64 (y.set 1), .int .u64 (y.set 2), .int .u64 (y.set 3), .int .i64 y.lo, .int .i64 y.hi, .int .i64 y.num, .slice y.A y.n y.c] 29))))
      rw [NV.v_eq] at HW ⊢
      have HB1 := Lib.hid hb1
      clear hb1 hb1' hy hs2 hg9 hrt
      go_wp2_with fail
      go_at_call 18
      refine HW.out.mono ?_
      rintro e w2 ⟨rfl, hb2⟩
      have HB2 := Lib.hid ((HB1.out.alloc HB1.out.size _).trans (hb2.mono (by have := HB1.out.size; rw [World.size_alloc]; omega)))
      clear hb2
      go_wp2_with fail
      go_at_call 8
      refine (HA.out _ HB2.out).mono ?_
      rintro e w3 ⟨rfl, hb3⟩
      have HB3 := Lib.hid (HB2.out.trans (hb3.mono HB2.out.size))
      clear hb3
      go_wp2_with fail
      go_ret
      exact ⟨rfl, HB3.out⟩
end Go.Proofs.Ytcidkfajembfhaa
