/-
  The document's Same of two trees that are one; the law's digits of numbers up to 20. Condition: no node has more than 4096 kids.
-/
import Derived.Test.YtbehbbmhkkidfaaPsize
import Derived.Test.YtbehbbmhkkidfaaCturned
import Derived.BigGuard
import Derived.Test.YtbehbbmhkkidfaaPsh
import Derived.Test.YtbehbbmhkkidfaaPraw
namespace Go.Proofs.Ytbehbbmhkkidfaa
open Go.RowKit Go.Deep Go.Sort

/-- No node has too many kids. -/
inductive Few : PN → Prop
  | mk (k : Int) (T : Nat → Nat) (lo hi num : Int) (kids : List PN) (h : kids.length ≤ 4096) (hk : ∀ t ∈ kids, Few t) : Few (.mk k T lo hi num kids)
def SameC (w : World) (e : Ending) (w' : World) : Prop := e = .returned (.bool true) ∧ Below w.heap.size w w'
theorem lt_meas {a i : Nat} (h : i < a) : a - ((i : Int) + 1).toNat < a - ((i : Int)).toNat := by omega
set_option maxRecDepth 100000 in
set_option maxHeartbeats 2000000 in
theorem same_step {k : Int} {T : Nat → Nat} {lo hi num : Int} {kids : List PN} (h4 : kids.length ≤ 4096)
    (ih : ∀ t ∈ kids, ∀ (S1 S2 : Nat → Prop) (w : World) (x y : NV), IsP S1 w t x → IsP S2 w t y → Calls Try.prog 12 #[x.v, y.v] w (SameC w))
    {S1 S2 : Nat → Prop} {w : World} {A1 A2 : Option Addr} {c1 c2 : Nat} {xs ys : List NV}
    (hlx : xs.length = kids.length) (hrx : RawOff S1 w A1 (nsV xs)) (hkx : ∀ (i : Nat) (t : PN) (x : NV), kids[i]? = some t → xs[i]? = some x → IsP S1 w t x)
    (hly : ys.length = kids.length) (hry : RawOff S2 w A2 (nsV ys)) (hky : ∀ (i : Nat) (t : PN) (x : NV), kids[i]? = some t → ys[i]? = some x → IsP S2 w t x) :
    Calls Try.prog 12 #[.agg #[.int .i64 k, .int .u64 (T 0), .int .u64 (T 1), .int .u64 (T 2), .int .u64 (T 3), .int .i64 lo, .int .i64 hi, .int .i64 num, .slice A1 kids.length c1], .agg #[.int .i64 k, .int .u64 (T 0), .int .u64 (T 1), .int .u64 (T 2), .int .u64 (T 3), .int .i64 lo, .int .i64 hi, .int .i64 num, .slice A2 kids.length c2]] w (SameC w) := by
  have HX := Lib.hid (And.intro hlx (And.intro hrx hkx))
  have HY := Lib.hid (And.intro hly (And.intro hry hky))
  have HI := Lib.hid ih
  obtain ⟨N, hN⟩ : ∃ N, N = kids.length := ⟨_, rfl⟩
  have HN := Lib.hid hN
  have H4 := Lib.hid (show N ≤ 4096 by omega)
  have ET := eq_self T
  rw [← hN]
  clear ih hlx hrx hkx hly hry hky hN h4
  go_enter Try.func12, Try.ntmps12
  go_wp2_with fail
  clear ET
  obtain ⟨W2, hW2⟩ : ∃ W2, W2 = (w.alloc (.cells #[.int .i64 k, .int .u64 (T 0), .int .u64 (T 1), .int .u64 (T 2), .int .u64 (T 3), .int .i64 lo, .int .i64 hi, .int .i64 num, .slice A1 N c1] 30)).alloc (.cells #[.int .i64 k, .int .u64 (T 0), .int .u64 (T 1), .int .u64 (T 2), .int .u64 (T 3), .int .i64 lo, .int .i64 hi, .int .i64 num, .slice A2 N c2] 30) := ⟨_, rfl⟩
  have HB2 := Lib.hid (show Below w.heap.size w W2 by rw [hW2]; exact ((Below.refl _ w).alloc (Nat.le_refl _) _).alloc (by simp) _)
  have HK := Lib.hid (show W2.cell? ⟨w.heap.size, 8, none⟩ = some (.slice A1 N c1) ∧ W2.cell? ⟨w.heap.size + 1, 8, none⟩ = some (.slice A2 N c2) ∧ w.heap.size + 1 < W2.heap.size by rw [hW2]; refine ⟨by simp [go_sem], by simp [go_sem], by simp⟩)
  try rw [← hW2]
  clear hW2
  go_loopw [5, 6] (fun iv _ wr => ∃ i : Nat, iv = .int .i64 (i : Int) ∧ i ≤ N ∧ Below W2.heap.size W2 wr) (fun iv _ _ => N - (intOf iv).toNat)
  case atStart => exact ⟨0, rfl, Nat.zero_le _, Below.refl _ _⟩
  case round =>
    obtain ⟨i, rfl, hi, hbr⟩ := hrel
    have HBR := Lib.hid hbr
    have k1 : wr.cell? ⟨w.heap.size, 8, none⟩ = some (.slice A1 N c1) := by rw [hbr.cell (by have := HK.out.2.2; show w.heap.size < _; omega)]; exact HK.out.1
    have k2 : wr.cell? ⟨w.heap.size + 1, 8, none⟩ = some (.slice A2 N c2) := by rw [hbr.cell HK.out.2.2]; exact HK.out.2.1
    by_cases hlt : i < N
    · have hiI : (i : Int) < (N : Int) := by omega
      have hi0 : (0 : Int) ≤ (i : Int) := by omega
      have hi4 : i < 4096 := by have := H4.out; omega
      have hwr : wrap64 ((i : Int) + 1) = (i : Int) + 1 := IntWalk.wrap64_in _ (by omega)
      obtain ⟨t, ht⟩ : ∃ t, kids[i]? = some t := ⟨kids[i]'(by rw [← HN.out]; exact hlt), List.getElem?_eq_getElem _⟩
      obtain ⟨x, hx⟩ : ∃ x, xs[i]? = some x := ⟨xs[i]'(by rw [HX.out.1, ← HN.out]; exact hlt), List.getElem?_eq_getElem _⟩
      obtain ⟨y, hy⟩ : ∃ x, ys[i]? = some x := ⟨ys[i]'(by rw [HY.out.1, ← HN.out]; exact hlt), List.getElem?_eq_getElem _⟩
      have hbw := HB2.out.trans (hbr.mono HB2.out.size)
      obtain ⟨b1, o1, he1, hbl1, hcs1⟩ := off_at HX.out.2.1 (by rintro rfl; simp at hx)
      obtain ⟨b2, o2, he2, hbl2, hcs2⟩ := off_at HY.out.2.1 (by rintro rfl; simp at hy)
      cases he1
      cases he2
      obtain ⟨m0, m1, m2, m3, m4, m5, m6, m7, m8⟩ := hcs1 i x hx
      obtain ⟨n0, n1, n2, n3, n4, n5, n6, n7, n8⟩ := hcs2 i y hy
      have HC := Lib.hid fun (W : World) (hW : Below w.heap.size w W) => HI.out t (List.mem_of_getElem? ht) S1 S2 W x y ((HX.out.2.2 i t x ht hx).stays hW) ((HY.out.2.2 i t y ht hy).stays hW)
      have p0 := cell_regrown ((hbw.cell hbl1).trans m0)
      have p1 := cell_regrown ((hbw.cell hbl1).trans m1)
      have p2 := cell_regrown ((hbw.cell hbl1).trans m2)
      have p3 := cell_regrown ((hbw.cell hbl1).trans m3)
      have p4 := cell_regrown ((hbw.cell hbl1).trans m4)
      have p5 := cell_regrown ((hbw.cell hbl1).trans m5)
      have p6 := cell_regrown ((hbw.cell hbl1).trans m6)
      have p7 := cell_regrown ((hbw.cell hbl1).trans m7)
      have p8 := cell_regrown ((hbw.cell hbl1).trans m8)
      have q0 := cell_regrown ((hbw.cell hbl2).trans n0)
      have q1 := cell_regrown ((hbw.cell hbl2).trans n1)
      have q2 := cell_regrown ((hbw.cell hbl2).trans n2)
      have q3 := cell_regrown ((hbw.cell hbl2).trans n3)
      have q4 := cell_regrown ((hbw.cell hbl2).trans n4)
      have q5 := cell_regrown ((hbw.cell hbl2).trans n5)
      have q6 := cell_regrown ((hbw.cell hbl2).trans n6)
      have q7 := cell_regrown ((hbw.cell hbl2).trans n7)
      have q8 := cell_regrown ((hbw.cell hbl2).trans n8)
      have hs0 := hbw.size
      have RC := Lib.hid (show ∀ d os, Calls Try.prog 12 #[x.v, y.v] (grow (redrawn wr d) os) fun e w'' => e = .returned (.bool true) ∧ ∃ p : Regrown, w'' = grow (redrawn wr p.d) p.os from fun d os => Calls.regrown_of (HC.out _ (hbw.trans ((below_regrown wr d os).mono hs0))))
      rw [NV.v_eq, NV.v_eq] at RC
      have j1 := cell_regrown k1
      have j2 := cell_regrown k2
      clear hbr hbw hs0 m0 m1 m2 m3 m4 m5 m6 m7 m8 n0 n1 n2 n3 n4 n5 n6 n7 n8 hcs1 hcs2 ht hx hy
      go_upto_region 6 with fail
      go_cut [6] from 49 to 68 (fun t wx => t = .bool true ∧ Below wr.heap.size wr wx)
      case first =>
        refine wp_region_quiet_below (by kernel_rfl) (by kernel_rfl) ?_
        repeat (go_big_quiet_step (first | (with_reducible exact RC.out _ _)))
        refine wpQuiet_nil ?_
        rintro w5 ⟨⟨dq, osq⟩, rfl⟩
        have hb5 := below_regrown wr dq osq
        generalize grow (redrawn wr dq) osq = w5 at hb5 ⊢
        clear j1 j2 p0 p1 p2 p3 p4 p5 p6 p7 p8 q0 q1 q2 q3 q4 q5 q6 q7 q8
        go_wp2_with fail
        go_meet
        case rel => exact ⟨rfl, hb5⟩
      obtain ⟨rfl, hbc⟩ := hcut
      have HBC := Lib.hid (HBR.out.trans (hbc.mono HBR.out.size))
      clear j1 j2 p0 p1 p2 p3 p4 p5 p6 p7 p8 q0 q1 q2 q3 q4 q5 q6 q7 q8 hbc
      go_wp2_with fail
      go_roundw
      case rel => exact ⟨i + 1, by go_num, hlt, HBC.out⟩
      case measure => simp only [intOf]; exact lt_meas hlt
    · have he : i = N := by omega
      subst he
      have hiI : ¬ (i : Int) < (i : Int) := by omega
      have HBE := Lib.hid (HB2.out.trans (hbr.mono HB2.out.size))
      clear hbr hlt hi
      go_wp2_with fail
      go_ret
      exact ⟨rfl, HBE.out⟩
theorem same_is {t : PN} (h : Few t) : ∀ (S1 S2 : Nat → Prop) (w : World) (x y : NV), IsP S1 w t x → IsP S2 w t y → Calls Try.prog 12 #[x.v, y.v] w (SameC w) := by
  induction h with
  | mk k T lo hi num kids h4 _ ih =>
    intro S1 S2 w x y hx hy
    cases hx with
    | mk xs hlx hcx hrx hkx =>
      cases hy with
      | mk ys hly hcy hry hky => exact same_step h4 ih hlx hrx hkx hly hry hky
end Go.Proofs.Ytbehbbmhkkidfaa

namespace Go.Proofs.Ytbehbbmhkkidfaa
open Go.RowKit Go.Deep

def digS (n : Nat) : ByteArray := ⟨(digB n).toArray⟩
theorem digS_list (n : Nat) : (digS n).data.toList = digB n := by simp [digS]
theorem digS_size (n : Nat) : (digS n).size ≤ 2 := by
  show (digB n).toArray.size ≤ 2
  unfold digB
  split <;> simp
theorem dig_cut : ∀ n, n < 10 → (⟨#[48, 49, 50, 51, 52, 53, 54, 55, 56, 57]⟩ : ByteArray).extract n (n + 1) = digS n
  | 0, _ => rfl
  | 1, _ => rfl
  | 2, _ => rfl
  | 3, _ => rfl
  | 4, _ => rfl
  | 5, _ => rfl
  | 6, _ => rfl
  | 7, _ => rfl
  | 8, _ => rfl
  | 9, _ => rfl
  | n + 10, h => by omega
theorem dig_slice : ∀ n : Nat, n < 10 → ∀ W : World, (Instr.slice 9 (.string ⟨#[48, 49, 50, 51, 52, 53, 54, 55, 56, 57]⟩) (some (.int .i64 (n : Int))) (some (.int .i64 ((n + 1 : Nat) : Int))) none).run Try.prog W = Result.ok (Value.string (digS n)) W
  | 0, _, W => by kernel_rfl
  | 1, _, W => by kernel_rfl
  | 2, _, W => by kernel_rfl
  | 3, _, W => by kernel_rfl
  | 4, _, W => by kernel_rfl
  | 5, _, W => by kernel_rfl
  | 6, _, W => by kernel_rfl
  | 7, _, W => by kernel_rfl
  | 8, _, W => by kernel_rfl
  | 9, _, W => by kernel_rfl
  | n + 10, h, _ => by omega
set_option maxRecDepth 100000 in
theorem digit_is (n : Nat) (h : n < 10) (w : World) : Calls Try.prog 13 #[.int .i64 (n : Int)] w fun e w' => e = .returned (.string (digS n)) ∧ w' = w := by
  have d : decide ((n : Int) < 10) = true := decide_eq_true (by omega)
  have hd := dig_cut n h
  have hwr : wrap64 ((n : Int) + 1) = ((n + 1 : Nat) : Int) := IntWalk.wrap64_in _ (by omega)
  have hn0 : (0 : Int) ≤ (n : Int) := by omega
  have hn1 : n + 1 ≤ 10 := h
  have hnI : (n : Int) < 10 := by omega
  have s1 := dig_slice n h
  clear h hn1
  go_enter Try.func13, Try.ntmps13
  go_wp2_with fail
  go_ret
  exact ⟨rfl, rfl⟩
theorem dig_add : ∀ n, 10 ≤ n → n < 21 → digS (n / 10) ++ digS (n % 10) = digS n := by
  intro n h1 h2
  match n, h1, h2 with
  | 10, _, _ => rfl
  | 11, _, _ => rfl
  | 12, _, _ => rfl
  | 13, _, _ => rfl
  | 14, _, _ => rfl
  | 15, _, _ => rfl
  | 16, _, _ => rfl
  | 17, _, _ => rfl
  | 18, _, _ => rfl
  | 19, _, _ => rfl
  | 20, _, _ => rfl
  | n + 21, _, h => omega
set_option maxRecDepth 100000 in
theorem digits_is (n : Nat) (h : n ≤ 20) (w : World) : Calls Try.prog 13 #[.int .i64 (n : Int)] w fun e w' => e = .returned (.string (digS n)) ∧ w' = w := by
  by_cases h10 : n < 10
  · exact digit_is n h10 w
  · have d : decide ((n : Int) < 10) = false := decide_eq_false (by omega)
    obtain ⟨q, hq⟩ : ∃ q, q = n / 10 := ⟨_, rfl⟩
    obtain ⟨r, hr⟩ : ∃ r, r = n % 10 := ⟨_, rfl⟩
    have hqI : (n : Int).tdiv 10 = (q : Int) := by rw [hq]; rfl
    have hrI : (n : Int).tmod 10 = (r : Int) := by rw [hr]; rfl
    have HQ := Lib.hid fun (W : World) => digit_is q (by omega) W
    have HR := Lib.hid fun (W : World) => digit_is r (by omega) W
    have HS := Lib.hid (show digS q ++ digS r = digS n by rw [hq, hr]; exact dig_add n (by omega) (by omega))
    have hqw : wrap64 (q : Int) = (q : Int) := IntWalk.wrap64_in _ (by omega)
    have hrw : wrap64 (r : Int) = (r : Int) := IntWalk.wrap64_in _ (by omega)
    have hs1 := digS_size q
    have hs2 := digS_size r
    clear hq hr h h10
    go_enter Try.func13, Try.ntmps13
    go_wp2_with fail
    go_at_call 13
    refine (HQ.out _).mono ?_
    rintro e w1 ⟨rfl, hw1⟩
    subst w1
    go_wp2_with fail
    go_at_call 13
    refine (HR.out _).mono ?_
    rintro e w1 ⟨rfl, hw1⟩
    subst w1
    go_wp2_with fail
    go_ret
    exact ⟨by rw [HS.out]; rfl, rfl⟩
end Go.Proofs.Ytbehbbmhkkidfaa
