/-
  token.Lines, Word and Rest. Condition: a text of at most 2^20 bytes.
-/
import Derived.Test.YtncbmdbfdjhkeaaTkup
import Derived.Test.YtncbmdbfdjhkeaaTkpre
namespace Go.Proofs.Ytncbmdbfdjhkeaa
open Go.RowKit Go.Deep

def endW (c : UInt8) : Bool := ([10, 59] : List UInt8).contains c
def endR (c : UInt8) : Bool := ([10] : List UInt8).contains c
set_option maxRecDepth 100000 in
theorem word_is (t : ByteArray) (hz : t.size ≤ 1048576) (i : Int) (w : World) : Calls Try.prog 28 #[.string t, .int .i64 i] w (UpAns (upF endW t.data.toList i) w) := by
  have H : Hid (∀ W : World, Calls Try.prog 24 #[.string ⟨#[10, 59]⟩, .string t, .int .i64 i] W (UpAns (upF endW t.data.toList i) W)) := Lib.hid fun (W : World) => up_is ⟨#[10, 59]⟩ t hz i W
  obtain ⟨⟨p, q⟩, hp⟩ : ∃ p, p = upF endW t.data.toList i := ⟨_, rfl⟩
  rw [← hp] at H ⊢
  clear hp
  unfold UpAns UpV at H ⊢
  clear hz
  go_enter Try.func28, Try.ntmps28
  go_wp2_with fail
  go_at_call 24
  refine (H.out _).mono ?_
  rintro e w1 ⟨rfl, hb⟩
  have HB := Lib.hid hb
  clear hb
  go_wp2_with fail
  go_ret2
  exact ⟨rfl, HB.out⟩
set_option maxRecDepth 100000 in
theorem rest_is (t : ByteArray) (hz : t.size ≤ 1048576) (i : Int) (w : World) : Calls Try.prog 14 #[.string t, .int .i64 i] w (UpAns (upF endR t.data.toList i) w) := by
  have H : Hid (∀ W : World, Calls Try.prog 24 #[.string ⟨#[10]⟩, .string t, .int .i64 i] W (UpAns (upF endR t.data.toList i) W)) := Lib.hid fun (W : World) => up_is ⟨#[10]⟩ t hz i W
  obtain ⟨⟨p, q⟩, hp⟩ : ∃ p, p = upF endR t.data.toList i := ⟨_, rfl⟩
  rw [← hp] at H ⊢
  clear hp
  unfold UpAns UpV at H ⊢
  clear hz
  go_enter Try.func14, Try.ntmps14
  go_wp2_with fail
  go_at_call 24
  refine (H.out _).mono ?_
  rintro e w1 ⟨rfl, hb⟩
  have HB := Lib.hid hb
  clear hb
  go_wp2_with fail
  go_ret2
  exact ⟨rfl, HB.out⟩

def LinV : Option (List UInt8 × Nat) → Value
  | none => .tuple #[.string ⟨#[]⟩, .int .i64 0, .int .i64 121]
  | some p => .tuple #[.string (txt p.1), .int .i64 (p.2 : Int), .int .i64 0]
def LinAns (r : Option (List UInt8 × Nat)) (w : World) (e : Ending) (w' : World) : Prop := e = .returned (LinV r) ∧ Below w.heap.size w w'
structure LinJ (l : List UInt8) (r : Option (List UInt8 × Nat)) (w wr : World) (m : Nat) (b : List UInt8) (v : Value) : Prop where
  eq : linAt l m b = r
  le : m ≤ l.length
  len : b.length ≤ m
  buf : Buf w wr v b
theorem two_pre (l : List UInt8) (f : Nat) : tk_pre ⟨#[92, 10]⟩ (txt (l.drop f)) = decide (l[f]? = some 92 ∧ l[f + 1]? = some 10) := by
  unfold tk_pre
  rw [show (txt (l.drop f)).data.toList = l.drop f by simp [txt]]
  show ([92, 10] : List UInt8).isPrefixOf (l.drop f) = _
  rw [Bool.eq_iff_iff, decide_eq_true_eq]
  cases e : l[f]? with
  | none =>
    rw [drop_end (by simpa using e)]
    simp
  | some a =>
    rw [drop_at e]
    cases e2 : l[f + 1]? with
    | none => rw [drop_end (by simpa using e2)]; simp
    | some b =>
      rw [drop_at e2]
      show ((92 : UInt8) == a && ((10 : UInt8) == b && true)) = true ↔ _
      rw [Bool.and_true, Bool.and_eq_true, beq_iff_eq, beq_iff_eq, Option.some.injEq, Option.some.injEq]
      exact ⟨fun h => ⟨h.1.symm, h.2.symm⟩, fun h => ⟨h.1.symm, h.2.symm⟩⟩
theorem u8_isL (c : UInt8) (n : Nat) (hn : n < 256) : (((c.toNat : Nat) : Int) == (n : Int)) = decide (c = UInt8.ofNat n) := by
  rw [tk_u8_test c n (UInt8.ofNat n) (by simp; omega)]; rfl
set_option maxRecDepth 100000 in
set_option maxHeartbeats 8000000 in
theorem lines_is (t : ByteArray) (hz : t.size ≤ 1048576) (i : Int) (w : World) : Calls Try.prog 31 #[.string t, .int .i64 i] w (LinAns (linG t.data.toList i) w) := by
  have HSZ := Lib.hid (tk_size_of (s := t) rfl)
  have HZ := Lib.hid hz
  clear hz
  have HX := Lib.hid fun (W : World) => is_index t i W
  have HBL := Lib.hid fun (W : World) => blanks_is t (by have := HZ.out; omega) i W
  have HBE := Lib.hid (Below.refl w.heap.size w)
  unfold LinAns
  by_cases hv : 0 ≤ i ∧ i ≤ (t.size : Int)
  case neg =>
    have HE := Lib.hid (show linG t.data.toList i = none from if_neg (fun h => hv ⟨h.1, by rw [HSZ.out]; exact h.2⟩))
    rw [show (decide (0 ≤ i) && decide (i ≤ (t.size : Int))) = false by rw [← Bool.decide_and]; exact decide_eq_false hv] at HX
    clear hv HBL
    go_enter Try.func31, Try.ntmps31
    go_wp2_with fail
    refine tk_wp_scope_again 0 (fun _ _ => False) (fun _ _ => 0) rfl ?_ (fun _ _ h => h.elim)
    intro hp
    clear hp
    go_wp2_with fail
    go_at_call 40
    refine (HX.out _).mono ?_
    rintro e w1 ⟨rfl, rfl⟩
    go_wp2_with fail
    simp only [Exit.jump]
    refine bodyPost_ret (v := .tuple #[.string ⟨#[]⟩, .int .i64 0, .int .i64 121]) (by simp [results, Try.results31, go_sem]) rfl ⟨by rw [HE.out]; rfl, HBE.out⟩
  case pos =>
  rw [show (decide (0 ≤ i) && decide (i ≤ (t.size : Int))) = true by rw [← Bool.decide_and]; exact decide_eq_true hv] at HX
  obtain ⟨k, rfl⟩ : ∃ k : Nat, i = (k : Int) := ⟨i.toNat, by omega⟩
  obtain ⟨f, hf⟩ : ∃ f, f = k + blk (t.data.toList.drop k) := ⟨_, rfl⟩
  have hfl : f ≤ t.data.toList.length := by
    have := blk_le (t.data.toList.drop k)
    rw [List.length_drop] at this
    have := HSZ.out
    omega
  have hbf : blanksF t.data.toList (k : Int) = (f : Int) := by
    unfold blanksF
    rw [if_pos (by omega), Int.toNat_natCast, hf]
    omega
  rw [hbf] at HBL
  have hsl := fun (W : World) => str_slice_from (s := t) (l := t.data.toList) (txt_of t).symm hfl W
  have HP0 := Lib.hid fun (W : World) => tk_has_prefix (txt (t.data.toList.drop f)) ⟨#[92, 10]⟩ W
  obtain ⟨X, hX⟩ : ∃ X, X = txt (t.data.toList.drop f) := ⟨_, rfl⟩
  rw [two_pre, ← hX] at HP0
  simp only [← hX] at hsl
  obtain ⟨r, hr⟩ : ∃ r, r = linG t.data.toList (k : Int) := ⟨_, rfl⟩
  rw [← hr]
  unfold linG at hr
  rw [if_pos ⟨by omega, by rw [← HSZ.out]; exact hv.2⟩, Int.toNat_natCast, ← hf] at hr
  by_cases hp : t.data.toList[f]? = some 92 ∧ t.data.toList[f + 1]? = some 10
  case neg =>
    rw [if_neg hp] at hr
    have HE := Lib.hid hr
    rw [decide_eq_false hp] at HP0
    clear hv hf hfl hbf hX hr hp
    go_enter Try.func31, Try.ntmps31
    go_wp2_with fail
    refine tk_wp_scope_again 0 (fun _ _ => False) (fun _ _ => 0) rfl ?_ (fun _ _ h => h.elim)
    intro hp
    clear hp
    go_wp2_with fail
    go_at_call 40
    refine (HX.out _).mono ?_
    rintro e w1 ⟨rfl, rfl⟩
    go_wp2_with fail
    go_at_call 22
    refine (HBL.out _).mono ?_
    rintro e w1 ⟨rfl, rfl⟩
    go_wp2_with fail
    go_at_call 44
    refine (HP0.out _).mono ?_
    rintro e w1 ⟨rfl, rfl⟩
    go_wp2_with fail
    simp only [Exit.jump]
    refine bodyPost_ret (v := .tuple #[.string ⟨#[]⟩, .int .i64 0, .int .i64 121]) (by simp [results, Try.results31, go_sem]) rfl ⟨by rw [HE.out]; rfl, HBE.out⟩
  case pos =>
  rw [if_pos hp] at hr
  rw [decide_eq_true hp] at HP0
  obtain ⟨f2, hf2⟩ : ∃ f2, f2 = f + 2 := ⟨_, rfl⟩
  have hw2 : IntKind.i64.wrap ((f : Int) + 2) = (f2 : Int) := by
    have h1 := (List.getElem?_eq_some_iff.1 hp.2).1
    have := HSZ.out; have := HZ.out
    rw [IntWalk.i64_in ((f : Int) + 2) (by omega)]; omega
  have HS := Lib.hid (show LinJ t.data.toList r w w f2 [] (.slice none 0 0) from ⟨by rw [hr, hf2], by rw [hf2]; have h1 := (List.getElem?_eq_some_iff.1 hp.2).1; omega, by simp, Buf.start w⟩)
  clear hv hf hfl hbf hX hr hp hf2
  go_enter Try.func31, Try.ntmps31
  go_wp2_with fail
  refine tk_wp_scope_again 0 (fun a' w' => ∃ (m : Nat) (b : List UInt8) (v : Value), Hid (LinJ t.data.toList r w w' m b v) ∧ ∃ u : Nat → Value, a' = { tmps := #[.string t, .int .i64 (m : Int), undef, undef, .string ⟨#[]⟩, .int .i64 0, .int .i64 0, v, u 8, u 9, u 10, u 11, u 12, u 13, u 14, u 15, u 16, u 17, u 18, u 19, u 20, u 21, u 22, u 23, u 24, u 25, u 26, u 27, u 28, u 29, u 30, u 31, u 32, u 33, u 34, u 35, u 36, u 37, u 38, u 39, u 40, u 41, u 42, u 43, u 44, u 45, u 46, u 47, u 48, u 49, u 50, u 51, u 52, u 53, u 54], defers := [] }) (fun a' _ => t.size + 1 - (intOf (a'.tmps.getD 1 undef)).toNat) rfl ?_ ?_
  · intro hp
    have HP := Lib.hid hp
    clear hp
    go_wp2_with fail
    go_at_call 40
    refine (HX.out _).mono ?_
    rintro e w1 ⟨rfl, rfl⟩
    go_wp2_with fail
    go_at_call 22
    refine (HBL.out _).mono ?_
    rintro e w1 ⟨rfl, rfl⟩
    go_wp2_with fail
    go_at_call 44
    refine (HP0.out _).mono ?_
    rintro e w1 ⟨rfl, rfl⟩
    go_wp2_with fail
    go_step3
    simp only [Exit.then]
    rename_i hK
    exact hK _ _ (HP.out _ _ ⟨f2, [], _, HS, actG (by kernel_rfl)⟩)
  · rintro a' wr ⟨m, b, v, HJ, u, rfl⟩
    clear hw2 hsl HX HBL HP0 HS HBE
    have HBE := Lib.hid HJ.out.buf.below
    have hle := HJ.out.le
    rw [← HSZ.out] at hle
    have HBN1 := Lib.hid (show b.length + 1 ≤ 1099511627776 by have := HJ.out.len; have := HZ.out; omega)
    by_cases hm : m = t.size
    · have gm : ((m : Int) == (t.size : Int)) = true := by rw [hm, beq_self_eq_true]
      have HE := Lib.hid (show r = some (b ++ [10], m) by rw [← HJ.out.eq]; exact linAt_end (by rw [← HSZ.out, hm]; exact Nat.le_refl _))
      clear hm hle
      go_upto_region 9 with fail
      go_wp2_with (refine wpList_put 34 10 HJ.out.buf rfl rfl rfl HBN1.out ?_)
      intro v' w' hb'
      have hcv := buf_text hb'
      have HB' := Lib.hid hb'.below
      clear hb'
      go_wp2_with fail
      simp only [Exit.jump]
      refine bodyPost_ret (v := .tuple #[.string (txt (b ++ [10])), .int .i64 (m : Int), .int .i64 0]) (by simp [results, Try.results31, go_sem]) rfl ⟨by rw [HE.out]; rfl, HB'.out⟩
    have gm : ((m : Int) == (t.size : Int)) = false := by rw [beq_eq_false_iff_ne]; omega
    have hlt : m < t.size := by omega
    obtain ⟨c, hc⟩ : ∃ c, t.data.toList[m]? = some c := ⟨_, List.getElem?_eq_getElem (by simpa using hlt)⟩
    have hat := tk_at_of rfl hc
    have hli : (m : Int) < (t.size : Int) := by omega
    have c10 := u8_isL c 10 (by omega)
    have c92 := u8_isL c 92 (by omega)
    by_cases h1 : c = 10
    · have q1 : ((c.toNat : Int) == 10) = true := by rw [show (10 : Int) = ((10 : Nat) : Int) from rfl, c10]; exact decide_eq_true h1
      have HE := Lib.hid (show r = some (b ++ [10], m) by rw [← HJ.out.eq]; exact linAt_feed (by rw [hc, h1]))
      clear hm hle c10 c92 h1 hc
      go_upto_region 9 with fail
      go_wp2_with (refine wpList_put 34 10 HJ.out.buf rfl rfl rfl HBN1.out ?_)
      intro v' w' hb'
      have hcv := buf_text hb'
      have HB' := Lib.hid hb'.below
      clear hb'
      go_wp2_with fail
      simp only [Exit.jump]
      refine bodyPost_ret (v := .tuple #[.string (txt (b ++ [10])), .int .i64 (m : Int), .int .i64 0]) (by simp [results, Try.results31, go_sem]) rfl ⟨by rw [HE.out]; rfl, HB'.out⟩
    have q1 : ((c.toNat : Int) == 10) = false := by rw [show (10 : Int) = ((10 : Nat) : Int) from rfl, c10]; exact decide_eq_false h1
    obtain ⟨m1, hm1⟩ : ∃ m1, m1 = m + 1 := ⟨_, rfl⟩
    have hwm := addU (by have := HZ.out; omega) hm1
    have HML := Lib.hid (show t.size + 1 - m1 < t.size + 1 - m by omega)
    by_cases h3 : c = 92
    · have q3 : ((c.toNat : Int) == 92) = true := by rw [show (92 : Int) = ((92 : Nat) : Int) from rfl, c92]; exact decide_eq_true h3
      have hc9 : t.data.toList[m]? = some 92 := by rw [hc, h3]
      by_cases hm2 : m1 = t.size
      · have gm1 : ((m1 : Int) == (t.size : Int)) = true := by rw [hm2, beq_self_eq_true]
        have HE := Lib.hid (show r = none by rw [← HJ.out.eq]; exact linAt_back_end hc9 (by rw [← HSZ.out]; omega))
        clear hm hle c10 c92 h1 h3 hc hm1 hm2 hc9
        go_wp2_with fail
        simp only [Exit.jump]
        refine bodyPost_ret (v := .tuple #[.string ⟨#[]⟩, .int .i64 0, .int .i64 121]) (by simp [results, Try.results31, go_sem]) rfl ⟨by rw [HE.out]; rfl, HBE.out⟩
      have gm1 : ((m1 : Int) == (t.size : Int)) = false := by rw [beq_eq_false_iff_ne]; omega
      have hlt1 : m1 < t.size := by omega
      obtain ⟨x, hx⟩ : ∃ x, t.data.toList[m1]? = some x := ⟨_, List.getElem?_eq_getElem (by simpa using hlt1)⟩
      have hat1 := tk_at_of rfl hx
      obtain ⟨m2, hm3⟩ : ∃ m2, m2 = m1 + 1 := ⟨_, rfl⟩
      have hwm1 := addU (by have := HZ.out; omega) hm3
      have HML2 := Lib.hid (show t.size + 1 - m2 < t.size + 1 - m by omega)
      have hli1 : (m1 : Int) < (t.size : Int) := by omega
      have hst := linAt_back (b := b) hc9 (by rw [← hm1]; exact hx)
      rw [show m + 2 = m2 by omega, HJ.out.eq] at hst
      have HN := Lib.hid (show ∀ v' w', Buf w w' v' (b ++ [x]) → LinJ t.data.toList r w w' m2 (b ++ [x]) v' from fun v' w' hb => ⟨hst.symm, by rw [← HSZ.out]; omega, by have := HJ.out.len; simp only [List.length_append, List.length_cons, List.length_nil]; omega, hb⟩)
      clear hm hle c10 c92 h1 h3 hc hm1 hm2 hc9 hm3 hx hst
      go_upto_region 14 with fail
      go_wp2_with (refine wpList_put 52 x HJ.out.buf rfl rfl rfl HBN1.out ?_)
      intro v' w' hb'
      have HB' := Lib.hid (HN.out v' w' hb')
      clear hb'
      go_wp2_with fail
      go_step3
      exact ⟨rfl, ⟨m2, _, _, HB', actG (by kernel_rfl)⟩, by simpa [intOf] using HML2.out⟩
    · have q3 : ((c.toNat : Int) == 92) = false := by rw [show (92 : Int) = ((92 : Nat) : Int) from rfl, c92]; exact decide_eq_false h3
      have HN := Lib.hid (show ∀ v' w', Buf w w' v' (b ++ [c]) → LinJ t.data.toList r w w' m1 (b ++ [c]) v' from fun v' w' hb => ⟨by rw [← HJ.out.eq, hm1]; exact (linAt_other hc h1 h3).symm, by rw [← HSZ.out]; omega, by have := HJ.out.len; simp only [List.length_append, List.length_cons, List.length_nil]; omega, hb⟩)
      clear hm hle c10 c92 h1 h3 hc hm1
      go_upto_region 14 with fail
      go_wp2_with (refine wpList_put 52 c HJ.out.buf rfl rfl rfl HBN1.out ?_)
      intro v' w' hb'
      have HB' := Lib.hid (HN.out v' w' hb')
      clear hb'
      go_wp2_with fail
      go_step3
      exact ⟨rfl, ⟨m1, _, _, HB', actG (by kernel_rfl)⟩, by simpa [intOf] using HML.out⟩
end Go.Proofs.Ytncbmdbfdjhkeaa
