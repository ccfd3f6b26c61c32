/-
  The law's written: a row, its kids' texts given. Condition: a million bytes at most.
-/
import Derived.Test.YtbehbbmhkkidfaaPwr
namespace Go.Proofs.Ytbehbbmhkkidfaa
open Go.RowKit Go.Deep Go.Sort

theorem take_flat : ∀ {bs : List (List UInt8)} {i : Nat} {b : List UInt8}, bs[i]? = some b → (bs.take (i + 1)).flatten = (bs.take i).flatten ++ b
  | [], i, b, h => by simp at h
  | a :: r, 0, b, h => by simp at h; simp [h]
  | a :: r, i + 1, b, h => by
    have := take_flat (bs := r) (i := i) (b := b) (by simpa using h)
    simp [this]
theorem take_le : ∀ (bs : List (List UInt8)) (i : Nat), (bs.take i).flatten.length ≤ bs.flatten.length
  | [], i => by simp
  | a :: r, 0 => by simp
  | a :: r, i + 1 => by
    have := take_le r i
    simp only [List.take_succ_cons, List.flatten_cons, List.length_append]
    omega
theorem at_le : ∀ {bs : List (List UInt8)} {i : Nat} {b : List UInt8}, bs[i]? = some b → b.length ≤ bs.flatten.length
  | [], i, b, h => by simp at h
  | a :: r, 0, b, h => by simp at h; simp [h]
  | a :: r, i + 1, b, h => by
    have := at_le (bs := r) (i := i) (b := b) (by simpa using h)
    simp only [List.flatten_cons, List.length_append]
    omega
set_option maxRecDepth 100000 in
set_option maxHeartbeats 4000000 in
theorem written_row (ext : Bool) (T : Nat → Nat) (lo hi num : Int) {S : Nat → Prop} {kids : List PN} {xs : List NV} {bs : List (List UInt8)} {A : Option Addr} {n' cp : Nat} {w : World} (hn : n' = kids.length) (h4 : kids.length ≤ 4096)
    (hlx : xs.length = kids.length) (hrx : RawOff S w A (nsV xs)) (hkx : ∀ (i : Nat) (t : PN) (x : NV), kids[i]? = some t → xs[i]? = some x → IsP S w t x) (hlb : bs.length = kids.length) (hz : bs.flatten.length ≤ 1000000)
    (ih : ∀ (i : Nat) (t : PN) (x : NV) (b : List UInt8) (W : World), kids[i]? = some t → xs[i]? = some x → bs[i]? = some b → IsP S W t x → Calls Try.prog 11 #[x.v, .bool ext] W (WrAns b W)) :
    Calls Try.prog 11 #[.agg #[.int .i64 2, .int .u64 (T 0), .int .u64 (T 1), .int .u64 (T 2), .int .u64 (T 3), .int .i64 lo, .int .i64 hi, .int .i64 num, .slice A n' cp], .bool ext] w (WrAns bs.flatten w) := by
  have HX := Lib.hid (And.intro hlx (And.intro hrx (And.intro hkx (And.intro hlb hz))))
  have HI := Lib.hid ih
  have HN := Lib.hid hn
  have H4 := Lib.hid (show n' ≤ 4096 by omega)
  clear hlx hrx hkx hlb hz ih hn h4
  have HR92 := Lib.hid (show ∀ W : World, (convert 57 9 (.slice (some ⟨W.heap.size, 0, none⟩) 1 1)).run Try.prog (W.alloc (.cells #[.int .u8 92] 5)) = .ok (.string ⟨#[92]⟩) (W.alloc (.cells #[.int .u8 92] 5)) from fun W => run_one 92 W)
  have HO0 := Lib.hid (new_obj w (.cells #[.int .i64 2, .int .u64 (T 0), .int .u64 (T 1), .int .u64 (T 2), .int .u64 (T 3), .int .i64 lo, .int .i64 hi, .int .i64 num, .slice A n' cp] 30))
  have HB0 := Lib.hid (bA w (.cells #[.int .i64 2, .int .u64 (T 0), .int .u64 (T 1), .int .u64 (T 2), .int .u64 (T 3), .int .i64 lo, .int .i64 hi, .int .i64 num, .slice A n' cp] 30))
  go_enter Try.func11, Try.ntmps11
  go_upto_region 1 with fail
  obtain ⟨W, hW⟩ : ∃ W, W = w.alloc (.cells #[.int .i64 2, .int .u64 (T 0), .int .u64 (T 1), .int .u64 (T 2), .int .u64 (T 3), .int .i64 lo, .int .i64 hi, .int .i64 num, .slice A n' cp] 30) := ⟨_, rfl⟩
  rw [← hW] at HO0 HB0 ⊢
  clear hW
  have hcv := HR92.out W
  go_upto_region 2 with fail
  clear hcv
  obtain ⟨W1, hW1⟩ : ∃ W1, W1 = W.alloc (.cells #[.int .u8 92] 5) := ⟨_, rfl⟩
  have HO1 := Lib.hid (old_obj HO0.out (.cells #[.int .u8 92] 5))
  have HB1 := Lib.hid (HB0.out.trans ((bA W (.cells #[.int .u8 92] 5)).mono HB0.out.size))
  rw [← hW1] at HO1 HB1 ⊢
  clear hW1 HO0 HB0
  cases ext with
  | true =>
    obtain ⟨⟨k0, k1, k2, k3, k4, k5, k6, k7, k8⟩, _⟩ := box9 HO1.out
    have lw : w.heap.size < W1.heap.size := HO1.out |> lt_of_some
    go_wp2_with fail
    clear k0 k1 k2 k3 k4 k5 k6 k7 k8
    go_loopw [8, 9] (fun tv iv wr => ∃ (i : Nat) (s : ByteArray), i ≤ n' ∧ iv = .int .i64 (i : Int) ∧ tv = .string s ∧ s.data.toList = (bs.take i).flatten ∧ Below w.heap.size w wr ∧ wr.heap[w.heap.size]? = some (.cells #[.int .i64 2, .int .u64 (T 0), .int .u64 (T 1), .int .u64 (T 2), .int .u64 (T 3), .int .i64 lo, .int .i64 hi, .int .i64 num, .slice A n' cp] 30)) (fun _ iv _ => n' - (intOf iv).toNat)
    case atStart => exact ⟨0, ⟨#[]⟩, Nat.zero_le _, rfl, rfl, by simp, HB1.out, HO1.out⟩
    case round =>
      obtain ⟨i, s, hi, rfl, rfl, hs, hb, ho⟩ := hrel
      have HB := Lib.hid hb
      have HO := Lib.hid ho
      have HS := Lib.hid hs
      obtain ⟨⟨k0, k1, k2, k3, k4, k5, k6, k7, k8⟩, _⟩ := box9 ho
      have lw2 := lt_of_some ho
      clear hb ho hs lw
      by_cases hlt : i < n'
      · have hiI : (i : Int) < (n' : Int) := by omega
        have hi0 : (0 : Int) ≤ (i : Int) := by omega
        have hi4 : i < 4096 := by have := H4.out; omega
        have hwr : wrap64 ((i : Int) + 1) = (i : Int) + 1 := IntWalk.wrap64_in _ (by omega)
        obtain ⟨t, ht⟩ : ∃ t, kids[i]? = some t := ⟨kids[i]'(by rw [← HN.out]; exact hlt), List.getElem?_eq_getElem _⟩
        obtain ⟨x, hx⟩ : ∃ x, xs[i]? = some x := ⟨xs[i]'(by rw [HX.out.1, ← HN.out]; exact hlt), List.getElem?_eq_getElem _⟩
        obtain ⟨b, hbi⟩ : ∃ b, bs[i]? = some b := ⟨bs[i]'(by rw [HX.out.2.2.2.1, ← HN.out]; exact hlt), List.getElem?_eq_getElem _⟩
        obtain ⟨b1, o1, he1, hbl1, hcs1⟩ := off_at HX.out.2.1 (by rintro rfl; simp at hx)
        cases he1
        obtain ⟨m0, m1, m2, m3, m4, m5, m6, m7, m8⟩ := hcs1 i x hx
        have HC := Lib.hid fun (W : World) (hW : Below w.heap.size w W) => HI.out i t x b W ht hx hbi ((HX.out.2.2.1 i t x ht hx).stays hW)
        rw [NV.v_eq] at HC
        have HS1 := Lib.hid (take_flat hbi)
        have hz1 : s.size ≤ 1000000 := by
          have h1 : s.size = s.data.toList.length := by simp
          rw [h1, HS.out]
          exact Nat.le_trans (take_le _ _) HX.out.2.2.2.2
        have HZ2 := Lib.hid (show b.length ≤ 1000000 from Nat.le_trans (at_le hbi) HX.out.2.2.2.2)
        have p0 := ((HB.out.cell hbl1).trans m0)
        have p1 := ((HB.out.cell hbl1).trans m1)
        have p2 := ((HB.out.cell hbl1).trans m2)
        have p3 := ((HB.out.cell hbl1).trans m3)
        have p4 := ((HB.out.cell hbl1).trans m4)
        have p5 := ((HB.out.cell hbl1).trans m5)
        have p6 := ((HB.out.cell hbl1).trans m6)
        have p7 := ((HB.out.cell hbl1).trans m7)
        have p8 := ((HB.out.cell hbl1).trans m8)
        have HBL := Lib.hid hbl1
        clear m0 m1 m2 m3 m4 m5 m6 m7 m8 hcs1 ht hx hbi hbl1
        go_wp2_with fail
        go_at_call 11
        refine (HC.out _ HB.out).mono ?_
        rintro e w2 ⟨u, rfl, hu, hw2⟩
        have HU := Lib.hid hu
        have HO2 := Lib.hid (Below.obj hw2 HO.out (lt_of_some HO.out))
        have HB2 := Lib.hid (HB.out.trans (hw2.mono HB.out.size))
        have hz2 : u.size ≤ 1000000 := by
          have h1 : u.size = u.data.toList.length := by simp
          rw [h1, HU.out]
          exact HZ2.out
        clear k0 k1 k2 k3 k4 k5 k6 k7 k8 p0 p1 p2 p3 p4 p5 p6 p7 p8 hw2 hu lw2
        go_wp2_with fail
        exact ⟨⟨i + 1, s ++ u, hlt, by simp, rfl, by rw [HS1.out, ← HS.out, ← HU.out]; simp, HB2.out, HO2.out⟩, by simp only [intOf]; exact lt_meas hlt⟩
      · have he : i = n' := by omega
        subst he
        have hiI : ¬ (i : Int) < (i : Int) := by omega
        have HF := Lib.hid (show (bs.take i).flatten = bs.flatten by rw [List.take_of_length_le (by rw [HX.out.2.2.2.1, ← HN.out]; exact Nat.le_refl _)])
        clear hlt hi
        go_wp2_with fail
        go_ret
        exact ⟨s, rfl, by rw [HS.out, HF.out], HB.out⟩
  | false =>
    obtain ⟨⟨k0, k1, k2, k3, k4, k5, k6, k7, k8⟩, _⟩ := box9 HO1.out
    have lw : w.heap.size < W1.heap.size := HO1.out |> lt_of_some
    go_wp2_with fail
    clear k0 k1 k2 k3 k4 k5 k6 k7 k8
    go_loopw [8, 9] (fun tv iv wr => ∃ (i : Nat) (s : ByteArray), i ≤ n' ∧ iv = .int .i64 (i : Int) ∧ tv = .string s ∧ s.data.toList = (bs.take i).flatten ∧ Below w.heap.size w wr ∧ wr.heap[w.heap.size]? = some (.cells #[.int .i64 2, .int .u64 (T 0), .int .u64 (T 1), .int .u64 (T 2), .int .u64 (T 3), .int .i64 lo, .int .i64 hi, .int .i64 num, .slice A n' cp] 30)) (fun _ iv _ => n' - (intOf iv).toNat)
    case atStart => exact ⟨0, ⟨#[]⟩, Nat.zero_le _, rfl, rfl, by simp, HB1.out, HO1.out⟩
    case round =>
      obtain ⟨i, s, hi, rfl, rfl, hs, hb, ho⟩ := hrel
      have HB := Lib.hid hb
      have HO := Lib.hid ho
      have HS := Lib.hid hs
      obtain ⟨⟨k0, k1, k2, k3, k4, k5, k6, k7, k8⟩, _⟩ := box9 ho
      have lw2 := lt_of_some ho
      clear hb ho hs lw
      by_cases hlt : i < n'
      · have hiI : (i : Int) < (n' : Int) := by omega
        have hi0 : (0 : Int) ≤ (i : Int) := by omega
        have hi4 : i < 4096 := by have := H4.out; omega
        have hwr : wrap64 ((i : Int) + 1) = (i : Int) + 1 := IntWalk.wrap64_in _ (by omega)
        obtain ⟨t, ht⟩ : ∃ t, kids[i]? = some t := ⟨kids[i]'(by rw [← HN.out]; exact hlt), List.getElem?_eq_getElem _⟩
        obtain ⟨x, hx⟩ : ∃ x, xs[i]? = some x := ⟨xs[i]'(by rw [HX.out.1, ← HN.out]; exact hlt), List.getElem?_eq_getElem _⟩
        obtain ⟨b, hbi⟩ : ∃ b, bs[i]? = some b := ⟨bs[i]'(by rw [HX.out.2.2.2.1, ← HN.out]; exact hlt), List.getElem?_eq_getElem _⟩
        obtain ⟨b1, o1, he1, hbl1, hcs1⟩ := off_at HX.out.2.1 (by rintro rfl; simp at hx)
        cases he1
        obtain ⟨m0, m1, m2, m3, m4, m5, m6, m7, m8⟩ := hcs1 i x hx
        have HC := Lib.hid fun (W : World) (hW : Below w.heap.size w W) => HI.out i t x b W ht hx hbi ((HX.out.2.2.1 i t x ht hx).stays hW)
        rw [NV.v_eq] at HC
        have HS1 := Lib.hid (take_flat hbi)
        have hz1 : s.size ≤ 1000000 := by
          have h1 : s.size = s.data.toList.length := by simp
          rw [h1, HS.out]
          exact Nat.le_trans (take_le _ _) HX.out.2.2.2.2
        have HZ2 := Lib.hid (show b.length ≤ 1000000 from Nat.le_trans (at_le hbi) HX.out.2.2.2.2)
        have p0 := ((HB.out.cell hbl1).trans m0)
        have p1 := ((HB.out.cell hbl1).trans m1)
        have p2 := ((HB.out.cell hbl1).trans m2)
        have p3 := ((HB.out.cell hbl1).trans m3)
        have p4 := ((HB.out.cell hbl1).trans m4)
        have p5 := ((HB.out.cell hbl1).trans m5)
        have p6 := ((HB.out.cell hbl1).trans m6)
        have p7 := ((HB.out.cell hbl1).trans m7)
        have p8 := ((HB.out.cell hbl1).trans m8)
        have HBL := Lib.hid hbl1
        clear m0 m1 m2 m3 m4 m5 m6 m7 m8 hcs1 ht hx hbi hbl1
        go_wp2_with fail
        go_at_call 11
        refine (HC.out _ HB.out).mono ?_
        rintro e w2 ⟨u, rfl, hu, hw2⟩
        have HU := Lib.hid hu
        have HO2 := Lib.hid (Below.obj hw2 HO.out (lt_of_some HO.out))
        have HB2 := Lib.hid (HB.out.trans (hw2.mono HB.out.size))
        have hz2 : u.size ≤ 1000000 := by
          have h1 : u.size = u.data.toList.length := by simp
          rw [h1, HU.out]
          exact HZ2.out
        clear k0 k1 k2 k3 k4 k5 k6 k7 k8 p0 p1 p2 p3 p4 p5 p6 p7 p8 hw2 hu lw2
        go_wp2_with fail
        exact ⟨⟨i + 1, s ++ u, hlt, by simp, rfl, by rw [HS1.out, ← HS.out, ← HU.out]; simp, HB2.out, HO2.out⟩, by simp only [intOf]; exact lt_meas hlt⟩
      · have he : i = n' := by omega
        subst he
        have hiI : ¬ (i : Int) < (i : Int) := by omega
        have HF := Lib.hid (show (bs.take i).flatten = bs.flatten by rw [List.take_of_length_le (by rw [HX.out.2.2.2.1, ← HN.out]; exact Nat.le_refl _)])
        clear hlt hi
        go_wp2_with fail
        go_ret
        exact ⟨s, rfl, by rw [HS.out, HF.out], HB.out⟩
end Go.Proofs.Ytbehbbmhkkidfaa
