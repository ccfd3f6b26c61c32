/-
  The law's written: a repeat, its kid's text given. Condition: a million bytes at most.
-/
import Derived.Test.YtbehbbmhkkidfaaPwr3
namespace Go.Proofs.Ytbehbbmhkkidfaa
open Go.RowKit Go.Deep Go.Sort

set_option maxRecDepth 100000 in
set_option maxHeartbeats 4000000 in
theorem written_rep (ext : Bool) (T : Nat → Nat) (lo : Nat) (hi num : Int) {S : Nat → Prop} {t : PN} {x : NV} {b : List UInt8} {A : Option Addr} {n' cp : Nat} {w : World} (_hn : n' = 1)
    (hrx : RawOff S w A (nsV [x])) (hkx : IsP S w t x) (hz : b.length ≤ 1000000) (hr : lo ≤ 20 ∧ hi ≤ 20 ∧ (hi = -1 ∨ (lo : Int) ≤ hi))
    (ih : ∀ (W : World), IsP S W t x → Calls Try.prog 11 #[x.v, .bool ext] W (WrAns b W)) :
    Calls Try.prog 11 #[.agg #[.int .i64 4, .int .u64 (T 0), .int .u64 (T 1), .int .u64 (T 2), .int .u64 (T 3), .int .i64 (lo : Int), .int .i64 hi, .int .i64 num, .slice A 1 cp], .bool ext] w (WrAns (b ++ repB' ext (some (lo, hi))) w) := by
  have HX := Lib.hid (And.intro hrx (And.intro hkx hz))
  have HR := Lib.hid hr
  have HC := Lib.hid fun (W : World) (hW : Below w.heap.size w W) => ih W (hkx.stays hW)
  rw [NV.v_eq] at HC
  clear hrx hkx hz hr ih
  have HR92 := Lib.hid (show ∀ W : World, (convert 57 9 (.slice (some ⟨W.heap.size, 0, none⟩) 1 1)).run Try.prog (W.alloc (.cells #[.int .u8 92] 5)) = .ok (.string ⟨#[92]⟩) (W.alloc (.cells #[.int .u8 92] 5)) from fun W => run_one 92 W)
  have HO0 := Lib.hid (new_obj w (.cells #[.int .i64 4, .int .u64 (T 0), .int .u64 (T 1), .int .u64 (T 2), .int .u64 (T 3), .int .i64 (lo : Int), .int .i64 hi, .int .i64 num, .slice A 1 cp] 30))
  have HB0 := Lib.hid (bA w (.cells #[.int .i64 4, .int .u64 (T 0), .int .u64 (T 1), .int .u64 (T 2), .int .u64 (T 3), .int .i64 (lo : Int), .int .i64 hi, .int .i64 num, .slice A 1 cp] 30))
  go_enter Try.func11, Try.ntmps11
  go_upto_region 1 with fail
  obtain ⟨W, hW⟩ : ∃ W, W = w.alloc (.cells #[.int .i64 4, .int .u64 (T 0), .int .u64 (T 1), .int .u64 (T 2), .int .u64 (T 3), .int .i64 (lo : Int), .int .i64 hi, .int .i64 num, .slice A 1 cp] 30) := ⟨_, rfl⟩
  rw [← hW] at HO0 HB0 ⊢
  clear hW
  have hcv := HR92.out W
  go_upto_region 2 with fail
  clear hcv
  obtain ⟨W1, hW1⟩ : ∃ W1, W1 = W.alloc (.cells #[.int .u8 92] 5) := ⟨_, rfl⟩
  have HO1 := Lib.hid (old_obj HO0.out (.cells #[.int .u8 92] 5))
  have HB1 := Lib.hid (HB0.out.trans ((bA W (.cells #[.int .u8 92] 5)).mono HB0.out.size))
  rw [← hW1] at HO1 HB1 ⊢
  clear hW1 HO0 HB0
  cases ext with
  | true =>
    obtain ⟨⟨k0, k1, k2, k3, k4, k5, k6, k7, k8⟩, _⟩ := box9 HO1.out
    have lw : w.heap.size < W1.heap.size := HO1.out |> lt_of_some
    obtain ⟨b1, o1, he1, hbl1, hcs1⟩ := off_at HX.out.1 (by simp)
    cases he1
    obtain ⟨m0, m1, m2, m3, m4, m5, m6, m7, m8⟩ := hcs1 0 x rfl
    rw [Nat.zero_mul, Nat.add_zero] at m0 m1 m2 m3 m4 m5 m6 m7 m8
    have p0 := ((HB1.out.cell hbl1).trans m0)
    have p1 := ((HB1.out.cell hbl1).trans m1)
    have p2 := ((HB1.out.cell hbl1).trans m2)
    have p3 := ((HB1.out.cell hbl1).trans m3)
    have p4 := ((HB1.out.cell hbl1).trans m4)
    have p5 := ((HB1.out.cell hbl1).trans m5)
    have p6 := ((HB1.out.cell hbl1).trans m6)
    have p7 := ((HB1.out.cell hbl1).trans m7)
    have p8 := ((HB1.out.cell hbl1).trans m8)
    clear m0 m1 m2 m3 m4 m5 m6 m7 m8 hcs1 hbl1
    go_wp2_with fail
    go_at_call 11
    refine (HC.out _ HB1.out).mono ?_
    rintro e w2 ⟨u, rfl, hu, hw2⟩
    have HU := Lib.hid hu
    have HO2 := Lib.hid (Below.obj hw2 HO1.out (lt_of_some HO1.out))
    have HB2 := Lib.hid (HB1.out.trans (hw2.mono HB1.out.size))
    have hz2 : u.size ≤ 1000000 := by
      have h1 : u.size = u.data.toList.length := by simp
      rw [h1, HU.out]
      exact HX.out.2.2
    clear k0 k1 k2 k3 k4 k5 k6 k7 k8 p0 p1 p2 p3 p4 p5 p6 p7 p8 hw2 hu lw
    obtain ⟨⟨k0, k1, k2, k3, k4, k5, k6, k7, k8⟩, _⟩ := box9 HO2.out
    have lw2 := lt_of_some HO2.out
    have HDL := Lib.hid fun (W : World) => digits_is lo HR.out.1 W
    have hzl := digS_size lo
    by_cases h0 : lo = 0
    · by_cases h1 : hi = -1
      · have HE := Lib.hid (show repB' true (some (lo, hi)) = [42] by simp [repB', h0, h1])
        have e0 : ((lo : Int) == 0) = true := by simp [h0]
        have e1 : (hi == -1) = true := by simp [h1]
        clear h0 h1 HR
        go_wp2_with fail
        go_ret
        exact ⟨_, rfl, by rw [← HU.out, HE.out]; simp, HB2.out⟩
      · have e0 : ((lo : Int) == 0) = true := by simp [h0]
        have e1 : (hi == -1) = false := by simp [h1]
        by_cases h2 : hi = (lo : Int)
        · have e2 : (hi != (lo : Int)) = false := by simp [h2]
          have HE := Lib.hid (show repB' true (some (lo, hi)) = slB true ++ [123] ++ digB lo ++ slB true ++ [125] by simp [repB', ivB, h2])
          clear h0 h1 h2 HR
          go_wp2_with fail
          go_at_call 13
          refine (HDL.out _).mono ?_
          rintro e w0 ⟨rfl, hw0⟩
          subst w0
          go_wp2_with fail
          go_ret
          exact ⟨_, rfl, by rw [← HU.out, HE.out]; simp [slB, digS], HB2.out⟩
        · have h3 : 0 ≤ hi := by have := HR.out; omega
          have e2 : (hi != (lo : Int)) = true := by simp [h2]
          have e3 : decide (hi ≥ 0) = true := decide_eq_true h3
          obtain ⟨m, hm⟩ : ∃ m : Nat, hi = (m : Int) := ⟨hi.toNat, by omega⟩
          have HE := Lib.hid (show repB' true (some (lo, hi)) = slB true ++ [123] ++ (digB lo ++ 44 :: digB m) ++ slB true ++ [125] by simp only [repB', ivB]; rw [if_neg (by intro h; omega), if_neg h2, if_neg (by omega), show hi.toNat = m by omega])
          have HDM := Lib.hid (show ∀ W : World, Calls Try.prog 13 #[.int .i64 hi] W fun e w' => e = .returned (.string (digS m)) ∧ w' = W from fun W => hm ▸ digits_is m (by have := HR.out; omega) W)
          have hzm := digS_size m
          clear h0 h1 h2 hm HR
          go_wp2_with fail
          go_at_call 13
          refine (HDL.out _).mono ?_
          rintro e w0 ⟨rfl, hw0⟩
          subst w0
          go_wp2_with fail
          go_at_call 13
          refine (HDM.out _).mono ?_
          rintro e w0 ⟨rfl, hw0⟩
          subst w0
          go_wp2_with fail
          go_ret
          exact ⟨_, rfl, by rw [← HU.out, HE.out]; simp [slB, digS], HB2.out⟩
    · have e0 : ((lo : Int) == 0) = false := by simp [h0]
      by_cases h2 : hi = (lo : Int)
      · have e2 : (hi != (lo : Int)) = false := by simp [h2]
        have HE := Lib.hid (show repB' true (some (lo, hi)) = slB true ++ [123] ++ digB lo ++ slB true ++ [125] by simp [repB', h0, ivB, h2])
        clear h0 h2 HR
        go_wp2_with fail
        go_at_call 13
        refine (HDL.out _).mono ?_
        rintro e w0 ⟨rfl, hw0⟩
        subst w0
        go_wp2_with fail
        go_ret
        exact ⟨_, rfl, by rw [← HU.out, HE.out]; simp [slB, digS], HB2.out⟩
      · by_cases h1 : hi = -1
        · have e2 : (hi != (lo : Int)) = true := by simp [h2]
          have e3 : decide (hi ≥ 0) = false := decide_eq_false (by omega)
          have h3 : ¬ hi ≥ 0 := by omega
          have HE := Lib.hid (show repB' true (some (lo, hi)) = slB true ++ [123] ++ (digB lo ++ [44]) ++ slB true ++ [125] by simp only [repB', ivB]; rw [if_neg (by intro h; omega), if_neg h2, if_pos (by omega)])
          clear h0 h1 h2 HR
          go_wp2_with fail
          go_at_call 13
          refine (HDL.out _).mono ?_
          rintro e w0 ⟨rfl, hw0⟩
          subst w0
          go_wp2_with fail
          go_ret
          exact ⟨_, rfl, by rw [← HU.out, HE.out]; simp [slB, digS], HB2.out⟩
        · have h3 : 0 ≤ hi := by have := HR.out; omega
          have e2 : (hi != (lo : Int)) = true := by simp [h2]
          have e3 : decide (hi ≥ 0) = true := decide_eq_true h3
          obtain ⟨m, hm⟩ : ∃ m : Nat, hi = (m : Int) := ⟨hi.toNat, by omega⟩
          have HE := Lib.hid (show repB' true (some (lo, hi)) = slB true ++ [123] ++ (digB lo ++ 44 :: digB m) ++ slB true ++ [125] by simp only [repB', ivB]; rw [if_neg (by intro h; omega), if_neg h2, if_neg (by omega), show hi.toNat = m by omega])
          have HDM := Lib.hid (show ∀ W : World, Calls Try.prog 13 #[.int .i64 hi] W fun e w' => e = .returned (.string (digS m)) ∧ w' = W from fun W => hm ▸ digits_is m (by have := HR.out; omega) W)
          have hzm := digS_size m
          clear h0 h1 h2 hm HR
          go_wp2_with fail
          go_at_call 13
          refine (HDL.out _).mono ?_
          rintro e w0 ⟨rfl, hw0⟩
          subst w0
          go_wp2_with fail
          go_at_call 13
          refine (HDM.out _).mono ?_
          rintro e w0 ⟨rfl, hw0⟩
          subst w0
          go_wp2_with fail
          go_ret
          exact ⟨_, rfl, by rw [← HU.out, HE.out]; simp [slB, digS], HB2.out⟩
  | false =>
    obtain ⟨⟨k0, k1, k2, k3, k4, k5, k6, k7, k8⟩, _⟩ := box9 HO1.out
    have lw : w.heap.size < W1.heap.size := HO1.out |> lt_of_some
    obtain ⟨b1, o1, he1, hbl1, hcs1⟩ := off_at HX.out.1 (by simp)
    cases he1
    obtain ⟨m0, m1, m2, m3, m4, m5, m6, m7, m8⟩ := hcs1 0 x rfl
    rw [Nat.zero_mul, Nat.add_zero] at m0 m1 m2 m3 m4 m5 m6 m7 m8
    have p0 := ((HB1.out.cell hbl1).trans m0)
    have p1 := ((HB1.out.cell hbl1).trans m1)
    have p2 := ((HB1.out.cell hbl1).trans m2)
    have p3 := ((HB1.out.cell hbl1).trans m3)
    have p4 := ((HB1.out.cell hbl1).trans m4)
    have p5 := ((HB1.out.cell hbl1).trans m5)
    have p6 := ((HB1.out.cell hbl1).trans m6)
    have p7 := ((HB1.out.cell hbl1).trans m7)
    have p8 := ((HB1.out.cell hbl1).trans m8)
    clear m0 m1 m2 m3 m4 m5 m6 m7 m8 hcs1 hbl1
    go_wp2_with fail
    go_at_call 11
    refine (HC.out _ HB1.out).mono ?_
    rintro e w2 ⟨u, rfl, hu, hw2⟩
    have HU := Lib.hid hu
    have HO2 := Lib.hid (Below.obj hw2 HO1.out (lt_of_some HO1.out))
    have HB2 := Lib.hid (HB1.out.trans (hw2.mono HB1.out.size))
    have hz2 : u.size ≤ 1000000 := by
      have h1 : u.size = u.data.toList.length := by simp
      rw [h1, HU.out]
      exact HX.out.2.2
    clear k0 k1 k2 k3 k4 k5 k6 k7 k8 p0 p1 p2 p3 p4 p5 p6 p7 p8 hw2 hu lw
    obtain ⟨⟨k0, k1, k2, k3, k4, k5, k6, k7, k8⟩, _⟩ := box9 HO2.out
    have lw2 := lt_of_some HO2.out
    have HDL := Lib.hid fun (W : World) => digits_is lo HR.out.1 W
    have hzl := digS_size lo
    by_cases h0 : lo = 0
    · by_cases h1 : hi = -1
      · have HE := Lib.hid (show repB' false (some (lo, hi)) = [42] by simp [repB', h0, h1])
        have e0 : ((lo : Int) == 0) = true := by simp [h0]
        have e1 : (hi == -1) = true := by simp [h1]
        clear h0 h1 HR
        go_wp2_with fail
        go_ret
        exact ⟨_, rfl, by rw [← HU.out, HE.out]; simp, HB2.out⟩
      · have e0 : ((lo : Int) == 0) = true := by simp [h0]
        have e1 : (hi == -1) = false := by simp [h1]
        by_cases h2 : hi = (lo : Int)
        · have e2 : (hi != (lo : Int)) = false := by simp [h2]
          have HE := Lib.hid (show repB' false (some (lo, hi)) = slB false ++ [123] ++ digB lo ++ slB false ++ [125] by simp [repB', ivB, h2])
          clear h0 h1 h2 HR
          go_wp2_with fail
          go_at_call 13
          refine (HDL.out _).mono ?_
          rintro e w0 ⟨rfl, hw0⟩
          subst w0
          go_wp2_with fail
          go_ret
          exact ⟨_, rfl, by rw [← HU.out, HE.out]; simp [slB, digS], HB2.out⟩
        · have h3 : 0 ≤ hi := by have := HR.out; omega
          have e2 : (hi != (lo : Int)) = true := by simp [h2]
          have e3 : decide (hi ≥ 0) = true := decide_eq_true h3
          obtain ⟨m, hm⟩ : ∃ m : Nat, hi = (m : Int) := ⟨hi.toNat, by omega⟩
          have HE := Lib.hid (show repB' false (some (lo, hi)) = slB false ++ [123] ++ (digB lo ++ 44 :: digB m) ++ slB false ++ [125] by simp only [repB', ivB]; rw [if_neg (by intro h; omega), if_neg h2, if_neg (by omega), show hi.toNat = m by omega])
          have HDM := Lib.hid (show ∀ W : World, Calls Try.prog 13 #[.int .i64 hi] W fun e w' => e = .returned (.string (digS m)) ∧ w' = W from fun W => hm ▸ digits_is m (by have := HR.out; omega) W)
          have hzm := digS_size m
          clear h0 h1 h2 hm HR
          go_wp2_with fail
          go_at_call 13
          refine (HDL.out _).mono ?_
          rintro e w0 ⟨rfl, hw0⟩
          subst w0
          go_wp2_with fail
          go_at_call 13
          refine (HDM.out _).mono ?_
          rintro e w0 ⟨rfl, hw0⟩
          subst w0
          go_wp2_with fail
          go_ret
          exact ⟨_, rfl, by rw [← HU.out, HE.out]; simp [slB, digS], HB2.out⟩
    · have e0 : ((lo : Int) == 0) = false := by simp [h0]
      by_cases h2 : hi = (lo : Int)
      · have e2 : (hi != (lo : Int)) = false := by simp [h2]
        have HE := Lib.hid (show repB' false (some (lo, hi)) = slB false ++ [123] ++ digB lo ++ slB false ++ [125] by simp [repB', h0, ivB, h2])
        clear h0 h2 HR
        go_wp2_with fail
        go_at_call 13
        refine (HDL.out _).mono ?_
        rintro e w0 ⟨rfl, hw0⟩
        subst w0
        go_wp2_with fail
        go_ret
        exact ⟨_, rfl, by rw [← HU.out, HE.out]; simp [slB, digS], HB2.out⟩
      · by_cases h1 : hi = -1
        · have e2 : (hi != (lo : Int)) = true := by simp [h2]
          have e3 : decide (hi ≥ 0) = false := decide_eq_false (by omega)
          have h3 : ¬ hi ≥ 0 := by omega
          have HE := Lib.hid (show repB' false (some (lo, hi)) = slB false ++ [123] ++ (digB lo ++ [44]) ++ slB false ++ [125] by simp only [repB', ivB]; rw [if_neg (by intro h; omega), if_neg h2, if_pos (by omega)])
          clear h0 h1 h2 HR
          go_wp2_with fail
          go_at_call 13
          refine (HDL.out _).mono ?_
          rintro e w0 ⟨rfl, hw0⟩
          subst w0
          go_wp2_with fail
          go_ret
          exact ⟨_, rfl, by rw [← HU.out, HE.out]; simp [slB, digS], HB2.out⟩
        · have h3 : 0 ≤ hi := by have := HR.out; omega
          have e2 : (hi != (lo : Int)) = true := by simp [h2]
          have e3 : decide (hi ≥ 0) = true := decide_eq_true h3
          obtain ⟨m, hm⟩ : ∃ m : Nat, hi = (m : Int) := ⟨hi.toNat, by omega⟩
          have HE := Lib.hid (show repB' false (some (lo, hi)) = slB false ++ [123] ++ (digB lo ++ 44 :: digB m) ++ slB false ++ [125] by simp only [repB', ivB]; rw [if_neg (by intro h; omega), if_neg h2, if_neg (by omega), show hi.toNat = m by omega])
          have HDM := Lib.hid (show ∀ W : World, Calls Try.prog 13 #[.int .i64 hi] W fun e w' => e = .returned (.string (digS m)) ∧ w' = W from fun W => hm ▸ digits_is m (by have := HR.out; omega) W)
          have hzm := digS_size m
          clear h0 h1 h2 hm HR
          go_wp2_with fail
          go_at_call 13
          refine (HDL.out _).mono ?_
          rintro e w0 ⟨rfl, hw0⟩
          subst w0
          go_wp2_with fail
          go_at_call 13
          refine (HDM.out _).mono ?_
          rintro e w0 ⟨rfl, hw0⟩
          subst w0
          go_wp2_with fail
          go_ret
          exact ⟨_, rfl, by rw [← HU.out, HE.out]; simp [slB, digS], HB2.out⟩
end Go.Proofs.Ytbehbbmhkkidfaa
/-
  The law's written: any tree of a list of shapes. Condition: a million bytes at most, and five kids a node.
-/
namespace Go.Proofs.Ytbehbbmhkkidfaa
open Go.RowKit Go.Deep Go.Sort

/-- A tree is written as these bytes, wherever it lies. -/
def WP (ext : Bool) (t : PN) (b : List UInt8) : Prop := ∀ (S : Nat → Prop) (w : World) (x : NV), IsP S w t x → Calls Try.prog 11 #[x.v, .bool ext] w (WrAns b w)
theorem wp_one (ext : Bool) (c : UInt8) : WP ext (oneN c) [c] := by
  intro S w x h
  cases h with
  | mk xs hl hc hr hk =>
    rw [NV.v_eq]
    exact written_one ext c _ (one_has c) 0 0 0 _ _ _ w
theorem wp_grp {ext : Bool} {t : PN} {b : List UInt8} (hz : b.length ≤ 1000000) (h : WP ext t b) (num : Int) : WP ext (.mk 5 noS 0 0 num [t]) (slB ext ++ [40] ++ b ++ slB ext ++ [41]) := by
  intro S w x hx
  cases hx with
  | mk xs hl hc hr hk =>
    rw [NV.v_eq]
    obtain ⟨y, rfl⟩ := List.length_eq_one_iff.1 hl
    exact written_grp ext noS 0 0 num rfl hr (hk 0 t y rfl rfl) hz fun W hW => h S W y hW
theorem wp_rep {ext : Bool} {t : PN} {b : List UInt8} (hz : b.length ≤ 1000000) (h : WP ext t b) {p : Nat × Int} (hr' : p.1 ≤ 20 ∧ p.2 ≤ 20 ∧ (p.2 = -1 ∨ (p.1 : Int) ≤ p.2)) : WP ext (.mk 4 noS (p.1 : Int) p.2 0 [t]) (b ++ repB' ext (some p)) := by
  intro S w x hx
  cases hx with
  | mk xs hl hc hr hk =>
    rw [NV.v_eq]
    obtain ⟨y, rfl⟩ := List.length_eq_one_iff.1 hl
    exact written_rep ext noS p.1 p.2 0 rfl hr (hk 0 t y rfl rfl) hz hr' fun W hW => h S W y hW
theorem wp_row {ext : Bool} {kids : List PN} {bs : List (List UInt8)} (h4 : kids.length ≤ 4096) (hlb : bs.length = kids.length) (hz : bs.flatten.length ≤ 1000000) (h : ∀ (i : Nat) (t : PN) (b : List UInt8), kids[i]? = some t → bs[i]? = some b → WP ext t b) : WP ext (.mk 2 noS 0 0 0 kids) bs.flatten := by
  intro S w x hx
  cases hx with
  | mk xs hl hc hr hk =>
    rw [NV.v_eq]
    exact written_row ext noS 0 0 0 rfl h4 hl hr hk hlb hz fun i t x b W ht _ hb hx => h i t b ht hb S W x hx
theorem wp_join {ext : Bool} {kids : List PN} {bs : List (List UInt8)} (h4 : kids.length ≤ 4096) (hlb : bs.length = kids.length) (hz : bs.flatten.length ≤ 1000000) (h : ∀ (i : Nat) (t : PN) (b : List UInt8), kids[i]? = some t → bs[i]? = some b → WP ext t b) : WP ext (joinK 2 kids) bs.flatten := by
  by_cases h1 : kids.length = 1
  · obtain ⟨t, rfl⟩ := List.length_eq_one_iff.1 h1
    obtain ⟨b, rfl⟩ := List.length_eq_one_iff.1 hlb
    rw [show ([b] : List (List UInt8)).flatten = b by simp]
    exact h 0 t b rfl rfl
  · rw [join_two' h1]
    exact wp_row h4 hlb hz h
mutual
/-- Five kids a node at most. -/
def thinS : Sh → Prop
  | .mk _ _ _ ks => ks.length ≤ 5 ∧ thinL ks
def thinL : List Sh → Prop
  | [] => True
  | s :: r => thinS s ∧ thinL r
end
theorem shPL_len : ∀ (l : List Sh) (g : Nat), (shPL l g).length = l.length
  | [], g => by simp [shPL]
  | s :: r, g => by simp [shPL, shPL_len r]
theorem shBL_flat (ext : Bool) : ∀ l : List Sh, shBL ext l = (l.map (shB ext)).flatten
  | [] => by simp [shBL]
  | s :: r => by simp [shBL, shBL_flat ext r]
mutual
theorem wp_sh (ext : Bool) : ∀ (s : Sh) (g : Nat), okS s → thinS s → (shB ext s).length ≤ 1000000 → WP ext (shP s g) (shB ext s)
  | .mk grp c rep ks, g, hok, hth, hz => by
    rw [okS.eq_1] at hok
    rw [thinS.eq_1] at hth
    rw [shP.eq_1, shB.eq_1]
    rw [shB.eq_1, List.length_append] at hz
    have hat : WP ext (atomP grp c g (shPL ks (g + 1))) (if grp = true then slB ext ++ [40] ++ shBL ext ks ++ slB ext ++ [41] else [c]) := by
      cases grp with
      | false => exact wp_one ext c
      | true =>
        simp only [atomP, if_true]
        have hz' : (shBL ext ks).length ≤ 1000000 := by
          simp only [if_true, List.length_append] at hz
          omega
        refine wp_grp hz' ?_ _
        have hk := wp_shL ext ks (g + 1) hok.2.2.2 hth.2 hz'
        rw [shBL_flat] at hz' ⊢
        exact wp_join (by rw [shPL_len]; omega) (by rw [shPL_len, List.length_map]) hz' hk
    cases rep with
    | none => simpa [repO, repB'] using hat
    | some p => exact wp_rep (by omega) hat (hok.2.2.1 p rfl)
theorem wp_shL (ext : Bool) : ∀ (l : List Sh) (g : Nat), okL l → thinL l → (shBL ext l).length ≤ 1000000 → ∀ (i : Nat) (t : PN) (b : List UInt8), (shPL l g)[i]? = some t → (l.map (shB ext))[i]? = some b → WP ext t b
  | [], g, _, _, _, i, t, b, h, _ => by simp [shPL] at h
  | s :: r, g, hok, hth, hz, i, t, b, h1, h2 => by
    rw [okL.eq_2] at hok
    rw [thinL.eq_2] at hth
    rw [shBL.eq_2, List.length_append] at hz
    rw [shPL.eq_2] at h1
    have h3 := wp_sh ext s g hok.1 hth.1 (by omega)
    have h4 := wp_shL ext r (g + cntS s) hok.2 hth.2 (by omega)
    match i with
    | 0 =>
      simp only [List.getElem?_cons_zero, List.map_cons, Option.some.injEq] at h1 h2
      rw [← h1, ← h2]
      exact h3
    | i + 1 =>
      simp only [List.getElem?_cons_succ, List.map_cons] at h1 h2
      exact h4 i t b h1 h2
end
/-- The law's written of a row of shapes. -/
theorem written_sh (ext : Bool) {l : List Sh} (g : Nat) (hok : okL l) (hth : thinL l) (h5 : l.length ≤ 5) (hz : (shBL ext l).length ≤ 1000000) : WP ext (joinK 2 (shPL l g)) (shBL ext l) := by
  have hk := wp_shL ext l g hok hth hz
  rw [shBL_flat] at hz ⊢
  exact wp_join (by rw [shPL_len]; omega) (by rw [shPL_len, List.length_map]) hz hk
end Go.Proofs.Ytbehbbmhkkidfaa
