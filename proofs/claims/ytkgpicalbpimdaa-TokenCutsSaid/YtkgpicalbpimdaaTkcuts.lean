/-
  TokenCuts: it returns true and turns nothing that was there. No condition.
-/
import Derived.Test.YtkgpicalbpimdaaTkalv
import Derived.Test.YtkgpicalbpimdaaTkrc
namespace Go.Proofs.Ytkgpicalbpimdaa
open Go.RowKit Go.Deep

theorem cutV_form (r : Option (List UInt8 × Nat)) : ∃ s n e, CutV r = .tuple #[.string s, .int .i64 n, .int .i64 e] := by
  cases r with
  | none => exact ⟨_, _, _, rfl⟩
  | some p => exact ⟨_, _, _, rfl⟩
set_option maxRecDepth 100000 in
set_option maxHeartbeats 2000000 in
theorem cuts_walk (t : ByteArray) (i : Int) (d : UInt8) (ln : Bool) (w : World) : Calls Try.prog 3 #[.string t, .int .i64 i, .agg #[.int .u8 (d.toNat : Int), .bool ln]] w (Alv w) := by
  have HAL := Lib.hid fun (W : World) => alive_is W
  unfold Alv at HAL ⊢
  have HB0 := Lib.hid ((Below.refl w.heap.size w).alloc (Nat.le_refl _) (.cells #[.int .u8 (d.toNat : Int), .bool ln] 23))
  by_cases hz : t.size ≤ 300
  case neg =>
    have g : decide ((t.size : Int) > 300) = true := decide_eq_true (by omega)
    have gn : decide (300 < t.size) = true := decide_eq_true (by omega)
    clear hz
    go_enter Try.func3, Try.ntmps3
    go_wp2_with fail
    go_at_call 10
    refine (HAL.out _).mono ?_
    rintro e w1 ⟨rfl, hb⟩
    have HB := Lib.hid (HB0.out.trans (hb.mono HB0.out.size))
    clear hb
    go_wp2_with fail
    go_ret
    exact ⟨rfl, HB.out⟩
  case pos =>
  have hz2 : t.size ≤ 1048576 := by omega
  have HCU := Lib.hid fun (W : World) => cut_is t hz2 i d ln W
  have HRC := Lib.hid fun (W : World) => rcut_is t hz2 i d ln W
  have g : decide ((t.size : Int) > 300) = false := decide_eq_false (by omega)
  have gn : decide (300 < t.size) = false := decide_eq_false (by omega)
  have gi : (t.size : Int) ≤ 300 := by omega
  unfold CutAns at HCU HRC
  obtain ⟨ls, l2, le, hl⟩ := cutV_form (cutG d ln t.data.toList i)
  rw [hl] at HCU HRC
  obtain ⟨W0, hW0⟩ : ∃ W0, W0 = w.alloc (.cells #[.int .u8 (d.toNat : Int), .bool ln] 23) := ⟨_, rfl⟩
  have hobj : W0.heap[w.heap.size]? = some (.cells #[.int .u8 (d.toNat : Int), .bool ln] 23) := by rw [hW0]; exact heap_alloc_new w _
  have k0 : W0.cell? ⟨w.heap.size, 0, none⟩ = some (.int .u8 (d.toNat : Int)) := by rw [obj_cell hobj]; rfl
  have k1 : W0.cell? ⟨w.heap.size, 1, none⟩ = some (.bool ln) := by rw [obj_cell hobj]; rfl
  have HK := Lib.hid (And.intro k0 k1)
  have hlt := lt_of_some hobj
  have HLT := Lib.hid hlt
  rw [← hW0] at HB0
  clear hz hz2 hl hobj
  go_enter Try.func3, Try.ntmps3
  go_upto_region 1 with fail
  rw [← hW0]
  clear hW0
  go_wp2_with fail
  go_at_call 11
  refine (HCU.out _).mono ?_
  rintro e w1 ⟨rfl, hb⟩
  have HB1 := Lib.hid (HB0.out.trans (hb.mono HB0.out.size))
  have q0 : w1.cell? ⟨w.heap.size, 0, none⟩ = some (.int .u8 (d.toNat : Int)) := by rw [hb.cell HLT.out]; exact HK.out.1
  have q1 : w1.cell? ⟨w.heap.size, 1, none⟩ = some (.bool ln) := by rw [hb.cell HLT.out]; exact HK.out.2
  clear hb k0 k1
  go_wp2_with fail
  go_at_call 12
  refine (HRC.out _).mono ?_
  rintro e w2 ⟨rfl, hb⟩
  have HB2 := Lib.hid (HB1.out.trans (hb.mono HB1.out.size))
  clear hb q0 q1
  go_wp2_with fail
  go_at_call 10
  refine (HAL.out _).mono ?_
  rintro e w3 ⟨rfl, hb⟩
  have HB3 := Lib.hid (HB2.out.trans (hb.mono HB2.out.size))
  clear hb
  go_wp2_with fail
  go_ret
  exact ⟨by simp, HB3.out⟩
end Go.Proofs.Ytkgpicalbpimdaa
