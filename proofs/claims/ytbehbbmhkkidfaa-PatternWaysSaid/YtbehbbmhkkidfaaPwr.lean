/-
  The law's written: a tree of letters, groups and repeats as a pattern's text: one letter. No condition.
-/
import Derived.Test.YtbehbbmhkkidfaaPei
import Derived.Test.YtbehbbmhkkidfaaCref
namespace Go.Proofs.Ytbehbbmhkkidfaa
open Go.RowKit Go.Deep Go.Sort

/-- What written answers. -/
def WrAns (b : List UInt8) (w : World) (e : Ending) (w' : World) : Prop := ∃ s : ByteArray, e = .returned (.string s) ∧ s.data.toList = b ∧ Below w.heap.size w w'
theorem run_one (p : UInt8) (W : World) : (convert 57 9 (.slice (some ⟨W.heap.size, 0, none⟩) 1 1)).run Try.prog (W.alloc (.cells #[.int .u8 (p.toNat : Int)] 5)) =
    .ok (.string ⟨#[p]⟩) (W.alloc (.cells #[.int .u8 (p.toNat : Int)] 5)) := by
  refine run_convert_bytes_back (P := Try.prog) _ 57 9 5 ⟨W.heap.size, 0, none⟩ 1 [p] Try.underlying57 Try.underlying5 Try.underlying9 (fun j hj => ?_)
  match j, hj with
  | 0, _ => simp [Addr.add, go_sem]
theorem one_has (c : UInt8) (i : Nat) : has (withS noS c.toNat c.toNat) i = decide (i = c.toNat) := by
  rw [has_with, has_no, Bool.false_or, ← Bool.decide_and]
  exact decide_eq_decide.2 (by omega)
theorem to256 {n c : Nat} (h : n < c) (hc : c < 256) : 256 - ((n : Int) + 1).toNat < 256 - ((n : Int)).toNat := by omega
set_option maxRecDepth 100000 in
set_option maxHeartbeats 2000000 in
theorem written_one (ext : Bool) (c : UInt8) (T : Nat → Nat) (hT : ∀ i, has T i = decide (i = c.toNat)) (lo hi num : Int) (A : Option Addr) (n' cp : Nat) (w : World) :
    Calls Try.prog 11 #[.agg #[.int .i64 1, .int .u64 (T 0), .int .u64 (T 1), .int .u64 (T 2), .int .u64 (T 3), .int .i64 lo, .int .i64 hi, .int .i64 num, .slice A n' cp], .bool ext] w (WrAns [c] w) := by
  have HT := Lib.hid hT
  clear hT
  have hc8 : c.toNat < 256 := UInt8.toNat_lt _
  have HC8 := Lib.hid hc8
  clear hc8
  have HR92 := Lib.hid (show ∀ W : World, (convert 57 9 (.slice (some ⟨W.heap.size, 0, none⟩) 1 1)).run Try.prog (W.alloc (.cells #[.int .u8 92] 5)) = .ok (.string ⟨#[92]⟩) (W.alloc (.cells #[.int .u8 92] 5)) from fun W => run_one 92 W)
  have HR1 := Lib.hid (fun W => run_one c W)
  have HO0 := Lib.hid (BoxN.new w ⟨1, T, lo, hi, num, A, n', cp⟩)
  have HB0 := Lib.hid (bA w (.cells #[.int .i64 1, .int .u64 (T 0), .int .u64 (T 1), .int .u64 (T 2), .int .u64 (T 3), .int .i64 lo, .int .i64 hi, .int .i64 num, .slice A n' cp] 30))
  go_enter Try.func11, Try.ntmps11
  go_upto_region 1 with fail
  obtain ⟨W, hW⟩ : ∃ W, W = w.alloc (.cells #[.int .i64 1, .int .u64 (T 0), .int .u64 (T 1), .int .u64 (T 2), .int .u64 (T 3), .int .i64 lo, .int .i64 hi, .int .i64 num, .slice A n' cp] 30) := ⟨_, rfl⟩
  unfold BoxN at HO0
  simp only [] at HO0
  rw [← hW] at HO0 HB0 ⊢
  clear hW
  have hcv := HR92.out W
  go_upto_region 2 with fail
  clear hcv
  obtain ⟨W1, hW1⟩ : ∃ W1, W1 = W.alloc (.cells #[.int .u8 92] 5) := ⟨_, rfl⟩
  have HO1 := Lib.hid (old_obj HO0.out (.cells #[.int .u8 92] 5))
  have HB1 := Lib.hid (HB0.out.trans ((bA W (.cells #[.int .u8 92] 5)).mono HB0.out.size))
  rw [← hW1] at HO1 HB1 ⊢
  clear hW1 HO0 HB0
  cases ext with
  | true =>
    obtain ⟨⟨k0, k1, k2, k3, k4, k5, k6, k7, k8⟩, _⟩ := box9 HO1.out
    have lw : w.heap.size < W1.heap.size := HO1.out |> lt_of_some
    go_wp2_with fail
    clear k0 k1 k2 k3 k4 k5 k6 k7 k8
    go_loopw [6, 7] (fun i _ wr => ∃ n : Nat, n ≤ c.toNat ∧ i = .int .i64 (n : Int) ∧ Below w.heap.size w wr ∧ wr.heap[w.heap.size]? = some (.cells #[.int .i64 1, .int .u64 (T 0), .int .u64 (T 1), .int .u64 (T 2), .int .u64 (T 3), .int .i64 lo, .int .i64 hi, .int .i64 num, .slice A n' cp] 30)) (fun i _ _ => 256 - (intOf i).toNat)
    case atStart => exact ⟨0, Nat.zero_le _, rfl, HB1.out, HO1.out⟩
    case round =>
      obtain ⟨n, hn, rfl, hb, ho⟩ := hrel
      have HB := Lib.hid hb
      have HO := Lib.hid ho
      have HN := Lib.hid hn
      have hlt : n < 256 := Nat.lt_of_le_of_lt hn HC8.out
      have hle : (n : Int) < 256 := by omega
      have hu : IntKind.u8.wrap (n : Int) = (n : Int) := IntWalk.u8_in _ (by omega)
      have hw : wrap64 ((n : Int) + 1) = (n : Int) + 1 := IntWalk.wrap64_in _ (by omega)
      have HH := Lib.hid fun (W : World) => rhas_is T n hlt W
      unfold setV at HH
      obtain ⟨⟨k0, k1, k2, k3, k4, k5, k6, k7, k8⟩, _⟩ := box9 ho
      clear hb ho hn
      go_wp2_with fail
      go_at_call 19
      refine (HH.out _).mono ?_
      rintro e w2 ⟨rfl, hw2⟩
      have HO2 := Lib.hid (Below.obj hw2 HO.out (lt_of_some HO.out))
      have HB2 := Lib.hid (HB.out.trans (hw2.mono HB.out.size))
      rw [HT.out n]
      clear k0 k1 k2 k3 k4 k5 k6 k7 k8 hw2
      by_cases hnc : n = c.toNat
      · subst hnc
        rw [decide_eq_true rfl]
        have hcv := HR1.out w2
        go_wp2_with fail
        go_ret
        exact ⟨⟨#[c]⟩, rfl, rfl, HB2.out.trans ((bA w2 _).mono HB2.out.size)⟩
      · rw [decide_eq_false hnc]
        have HN1 := Lib.hid (show n < c.toNat from Nat.lt_of_le_of_ne HN.out hnc)
        clear hnc
        go_wp2_with fail
        exact ⟨⟨n + 1, HN1.out, by simp, HB2.out, HO2.out⟩, by simp only [intOf]; exact to256 HN1.out HC8.out⟩
  | false =>
    obtain ⟨⟨k0, k1, k2, k3, k4, k5, k6, k7, k8⟩, _⟩ := box9 HO1.out
    have lw : w.heap.size < W1.heap.size := HO1.out |> lt_of_some
    go_wp2_with fail
    clear k0 k1 k2 k3 k4 k5 k6 k7 k8
    go_loopw [6, 7] (fun i _ wr => ∃ n : Nat, n ≤ c.toNat ∧ i = .int .i64 (n : Int) ∧ Below w.heap.size w wr ∧ wr.heap[w.heap.size]? = some (.cells #[.int .i64 1, .int .u64 (T 0), .int .u64 (T 1), .int .u64 (T 2), .int .u64 (T 3), .int .i64 lo, .int .i64 hi, .int .i64 num, .slice A n' cp] 30)) (fun i _ _ => 256 - (intOf i).toNat)
    case atStart => exact ⟨0, Nat.zero_le _, rfl, HB1.out, HO1.out⟩
    case round =>
      obtain ⟨n, hn, rfl, hb, ho⟩ := hrel
      have HB := Lib.hid hb
      have HO := Lib.hid ho
      have HN := Lib.hid hn
      have hlt : n < 256 := Nat.lt_of_le_of_lt hn HC8.out
      have hle : (n : Int) < 256 := by omega
      have hu : IntKind.u8.wrap (n : Int) = (n : Int) := IntWalk.u8_in _ (by omega)
      have hw : wrap64 ((n : Int) + 1) = (n : Int) + 1 := IntWalk.wrap64_in _ (by omega)
      have HH := Lib.hid fun (W : World) => rhas_is T n hlt W
      unfold setV at HH
      obtain ⟨⟨k0, k1, k2, k3, k4, k5, k6, k7, k8⟩, _⟩ := box9 ho
      clear hb ho hn
      go_wp2_with fail
      go_at_call 19
      refine (HH.out _).mono ?_
      rintro e w2 ⟨rfl, hw2⟩
      have HO2 := Lib.hid (Below.obj hw2 HO.out (lt_of_some HO.out))
      have HB2 := Lib.hid (HB.out.trans (hw2.mono HB.out.size))
      rw [HT.out n]
      clear k0 k1 k2 k3 k4 k5 k6 k7 k8 hw2
      by_cases hnc : n = c.toNat
      · subst hnc
        rw [decide_eq_true rfl]
        have hcv := HR1.out w2
        go_wp2_with fail
        go_ret
        exact ⟨⟨#[c]⟩, rfl, rfl, HB2.out.trans ((bA w2 _).mono HB2.out.size)⟩
      · rw [decide_eq_false hnc]
        have HN1 := Lib.hid (show n < c.toNat from Nat.lt_of_le_of_ne HN.out hnc)
        clear hnc
        go_wp2_with fail
        exact ⟨⟨n + 1, HN1.out, by simp, HB2.out, HO2.out⟩, by simp only [intOf]; exact to256 HN1.out HC8.out⟩
end Go.Proofs.Ytbehbbmhkkidfaa
