/-
  The law's written: a group, its kid's text given. Condition: a million bytes at most.
-/
import Derived.Test.YtbehbbmhkkidfaaPwr2
namespace Go.Proofs.Ytbehbbmhkkidfaa
open Go.RowKit Go.Deep Go.Sort

set_option maxRecDepth 100000 in
set_option maxHeartbeats 4000000 in
theorem written_grp (ext : Bool) (T : Nat → Nat) (lo hi num : Int) {S : Nat → Prop} {t : PN} {x : NV} {b : List UInt8} {A : Option Addr} {n' cp : Nat} {w : World} (_hn : n' = 1)
    (hrx : RawOff S w A (nsV [x])) (hkx : IsP S w t x) (hz : b.length ≤ 1000000)
    (ih : ∀ (W : World), IsP S W t x → Calls Try.prog 11 #[x.v, .bool ext] W (WrAns b W)) :
    Calls Try.prog 11 #[.agg #[.int .i64 5, .int .u64 (T 0), .int .u64 (T 1), .int .u64 (T 2), .int .u64 (T 3), .int .i64 lo, .int .i64 hi, .int .i64 num, .slice A 1 cp], .bool ext] w (WrAns (slB ext ++ [40] ++ b ++ slB ext ++ [41]) w) := by
  have HX := Lib.hid (And.intro hrx (And.intro hkx hz))
  have HC := Lib.hid fun (W : World) (hW : Below w.heap.size w W) => ih W (hkx.stays hW)
  rw [NV.v_eq] at HC
  clear hrx hkx hz ih
  have HR92 := Lib.hid (show ∀ W : World, (convert 57 9 (.slice (some ⟨W.heap.size, 0, none⟩) 1 1)).run Try.prog (W.alloc (.cells #[.int .u8 92] 5)) = .ok (.string ⟨#[92]⟩) (W.alloc (.cells #[.int .u8 92] 5)) from fun W => run_one 92 W)
  have HO0 := Lib.hid (new_obj w (.cells #[.int .i64 5, .int .u64 (T 0), .int .u64 (T 1), .int .u64 (T 2), .int .u64 (T 3), .int .i64 lo, .int .i64 hi, .int .i64 num, .slice A 1 cp] 30))
  have HB0 := Lib.hid (bA w (.cells #[.int .i64 5, .int .u64 (T 0), .int .u64 (T 1), .int .u64 (T 2), .int .u64 (T 3), .int .i64 lo, .int .i64 hi, .int .i64 num, .slice A 1 cp] 30))
  go_enter Try.func11, Try.ntmps11
  go_upto_region 1 with fail
  obtain ⟨W, hW⟩ : ∃ W, W = w.alloc (.cells #[.int .i64 5, .int .u64 (T 0), .int .u64 (T 1), .int .u64 (T 2), .int .u64 (T 3), .int .i64 lo, .int .i64 hi, .int .i64 num, .slice A 1 cp] 30) := ⟨_, rfl⟩
  rw [← hW] at HO0 HB0 ⊢
  clear hW
  have hcv := HR92.out W
  go_upto_region 2 with fail
  clear hcv
  obtain ⟨W1, hW1⟩ : ∃ W1, W1 = W.alloc (.cells #[.int .u8 92] 5) := ⟨_, rfl⟩
  have HO1 := Lib.hid (old_obj HO0.out (.cells #[.int .u8 92] 5))
  have HB1 := Lib.hid (HB0.out.trans ((bA W (.cells #[.int .u8 92] 5)).mono HB0.out.size))
  rw [← hW1] at HO1 HB1 ⊢
  clear hW1 HO0 HB0
  cases ext with
  | true =>
    obtain ⟨⟨k0, k1, k2, k3, k4, k5, k6, k7, k8⟩, _⟩ := box9 HO1.out
    have lw : w.heap.size < W1.heap.size := HO1.out |> lt_of_some
    obtain ⟨b1, o1, he1, hbl1, hcs1⟩ := off_at HX.out.1 (by simp)
    cases he1
    obtain ⟨m0, m1, m2, m3, m4, m5, m6, m7, m8⟩ := hcs1 0 x rfl
    rw [Nat.zero_mul, Nat.add_zero] at m0 m1 m2 m3 m4 m5 m6 m7 m8
    have p0 := ((HB1.out.cell hbl1).trans m0)
    have p1 := ((HB1.out.cell hbl1).trans m1)
    have p2 := ((HB1.out.cell hbl1).trans m2)
    have p3 := ((HB1.out.cell hbl1).trans m3)
    have p4 := ((HB1.out.cell hbl1).trans m4)
    have p5 := ((HB1.out.cell hbl1).trans m5)
    have p6 := ((HB1.out.cell hbl1).trans m6)
    have p7 := ((HB1.out.cell hbl1).trans m7)
    have p8 := ((HB1.out.cell hbl1).trans m8)
    clear m0 m1 m2 m3 m4 m5 m6 m7 m8 hcs1 hbl1
    go_wp2_with fail
    go_at_call 11
    refine (HC.out _ HB1.out).mono ?_
    rintro e w2 ⟨u, rfl, hu, hw2⟩
    have HU := Lib.hid hu
    have HO2 := Lib.hid (Below.obj hw2 HO1.out (lt_of_some HO1.out))
    have HB2 := Lib.hid (HB1.out.trans (hw2.mono HB1.out.size))
    have hz2 : u.size ≤ 1000000 := by
      have h1 : u.size = u.data.toList.length := by simp
      rw [h1, HU.out]
      exact HX.out.2.2
    clear k0 k1 k2 k3 k4 k5 k6 k7 k8 p0 p1 p2 p3 p4 p5 p6 p7 p8 hw2 hu lw
    go_wp2_with fail
    go_ret
    exact ⟨_, rfl, by rw [← HU.out]; simp [slB], HB2.out⟩
  | false =>
    obtain ⟨⟨k0, k1, k2, k3, k4, k5, k6, k7, k8⟩, _⟩ := box9 HO1.out
    have lw : w.heap.size < W1.heap.size := HO1.out |> lt_of_some
    obtain ⟨b1, o1, he1, hbl1, hcs1⟩ := off_at HX.out.1 (by simp)
    cases he1
    obtain ⟨m0, m1, m2, m3, m4, m5, m6, m7, m8⟩ := hcs1 0 x rfl
    rw [Nat.zero_mul, Nat.add_zero] at m0 m1 m2 m3 m4 m5 m6 m7 m8
    have p0 := ((HB1.out.cell hbl1).trans m0)
    have p1 := ((HB1.out.cell hbl1).trans m1)
    have p2 := ((HB1.out.cell hbl1).trans m2)
    have p3 := ((HB1.out.cell hbl1).trans m3)
    have p4 := ((HB1.out.cell hbl1).trans m4)
    have p5 := ((HB1.out.cell hbl1).trans m5)
    have p6 := ((HB1.out.cell hbl1).trans m6)
    have p7 := ((HB1.out.cell hbl1).trans m7)
    have p8 := ((HB1.out.cell hbl1).trans m8)
    clear m0 m1 m2 m3 m4 m5 m6 m7 m8 hcs1 hbl1
    go_wp2_with fail
    go_at_call 11
    refine (HC.out _ HB1.out).mono ?_
    rintro e w2 ⟨u, rfl, hu, hw2⟩
    have HU := Lib.hid hu
    have HO2 := Lib.hid (Below.obj hw2 HO1.out (lt_of_some HO1.out))
    have HB2 := Lib.hid (HB1.out.trans (hw2.mono HB1.out.size))
    have hz2 : u.size ≤ 1000000 := by
      have h1 : u.size = u.data.toList.length := by simp
      rw [h1, HU.out]
      exact HX.out.2.2
    clear k0 k1 k2 k3 k4 k5 k6 k7 k8 p0 p1 p2 p3 p4 p5 p6 p7 p8 hw2 hu lw
    go_wp2_with fail
    go_ret
    exact ⟨_, rfl, by rw [← HU.out]; simp [slB], HB2.out⟩
end Go.Proofs.Ytbehbbmhkkidfaa
