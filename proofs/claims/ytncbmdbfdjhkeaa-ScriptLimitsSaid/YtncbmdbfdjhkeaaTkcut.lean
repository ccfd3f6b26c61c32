/-
  token.Cut: what stands in a text up to a delimiter. Condition: a text of at most 2^20 bytes.
-/
import Derived.Test.YtncbmdbfdjhkeaaTkbuf
namespace Go.Proofs.Ytncbmdbfdjhkeaa
open Go.RowKit Go.Deep

theorem actF {F : (Nat → Value) → Act} {a : Act} (h : a = F (fun i => a.tmps.getD i undef)) : ∃ u, a = F u := ⟨_, h⟩
def CutV : Option (List UInt8 × Nat) → Value
  | none => .tuple #[.string ⟨#[]⟩, .int .i64 0, .int .i64 121]
  | some p => .tuple #[.string (txt p.1), .int .i64 (p.2 : Int), .int .i64 0]
def CutAns (r : Option (List UInt8 × Nat)) (w : World) (e : Ending) (w' : World) : Prop := e = .returned (CutV r) ∧ Below w.heap.size w w'
/-- What holds where a round begins. -/
structure CutJ (d : UInt8) (ln : Bool) (l : List UInt8) (r : Option (List UInt8 × Nat)) (w wr : World) (m : Nat) (b : List UInt8) (v : Value) : Prop where
  eq : cutAt d ln l m b = r
  le : m ≤ l.length
  len : b.length ≤ 2 * m
  buf : Buf w wr v b
theorem cutG_bad {d : UInt8} {ln : Bool} {l : List UInt8} {i : Int} (h : ¬ (0 ≤ i ∧ i ≤ (l.length : Int) ∧ d ≠ 10 ∧ d ≠ 92)) : cutG d ln l i = none := if_neg h
theorem add1 {m m1 : Nat} (hm : m ≤ 1048577) (h : m1 = m + 1) : IntKind.i64.wrap ((m : Int) + 1) = (m1 : Int) := by
  rw [IntWalk.i64_in ((m : Int) + 1) (by omega)]; omega
theorem u8_is (c : UInt8) (n : Nat) (hn : n < 256) : (((c.toNat : Nat) : Int) == (n : Int)) = decide (c = UInt8.ofNat n) := by
  rw [tk_u8_test c n (UInt8.ofNat n) (by simp; omega)]; rfl
theorem u8_same (c d : UInt8) : (((c.toNat : Nat) : Int) == ((d.toNat : Nat) : Int)) = decide (c = d) := by
  rw [tk_u8_test c d.toNat d rfl]; rfl
set_option maxRecDepth 100000 in
set_option maxHeartbeats 8000000 in
theorem cut_is (t : ByteArray) (hz : t.size ≤ 1048576) (i : Int) (d : UInt8) (ln : Bool) (w : World) : Calls Try.prog 61 #[.string t, .int .i64 i, .int .u8 (d.toNat : Int), .bool ln] w (CutAns (cutG d ln t.data.toList i) w) := by
  have HSZ := Lib.hid (tk_size_of (s := t) rfl)
  have HZ := Lib.hid hz
  clear hz
  have HX := Lib.hid fun (W : World) => is_index t i W
  unfold CutAns
  by_cases hv : 0 ≤ i ∧ i ≤ (t.size : Int)
  case neg =>
    have HB := Lib.hid (cutG_bad (d := d) (ln := ln) (l := t.data.toList) (i := i) (fun h => hv ⟨h.1, by rw [HSZ.out]; exact h.2.1⟩))
    rw [show (decide (0 ≤ i) && decide (i ≤ (t.size : Int))) = false by rw [← Bool.decide_and]; exact decide_eq_false hv] at HX
    clear hv
    go_enter Try.func61, Try.ntmps61
    go_wp2_with fail
    refine tk_wp_scope_again 0 (fun _ _ => False) (fun _ _ => 0) rfl ?_ (fun _ _ h => h.elim)
    intro hp
    clear hp
    go_wp2_with fail
    go_at_call 40
    refine (HX.out _).mono ?_
    rintro e w1 ⟨rfl, rfl⟩
    go_wp2_with fail
    simp only [Exit.jump]
    refine bodyPost_ret (v := .tuple #[.string ⟨#[]⟩, .int .i64 0, .int .i64 121]) (by simp [results, Try.results61, go_sem]) rfl ⟨by rw [HB.out]; rfl, Below.refl _ _⟩
  case pos =>
  rw [show (decide (0 ≤ i) && decide (i ≤ (t.size : Int))) = true by rw [← Bool.decide_and]; exact decide_eq_true hv] at HX
  have e10 := u8_is d 10 (by omega)
  have e92 := u8_is d 92 (by omega)
  by_cases h10 : d = 10
  · have HB := Lib.hid (cutG_bad (d := d) (ln := ln) (l := t.data.toList) (i := i) (fun h => h.2.2.1 h10))
    have g10 : ((d.toNat : Int) == 10) = true := by rw [show (10 : Int) = ((10 : Nat) : Int) from rfl, e10]; exact decide_eq_true h10
    clear hv e10 e92 h10
    go_enter Try.func61, Try.ntmps61
    go_wp2_with fail
    refine tk_wp_scope_again 0 (fun _ _ => False) (fun _ _ => 0) rfl ?_ (fun _ _ h => h.elim)
    intro hp
    clear hp
    go_wp2_with fail
    go_at_call 40
    refine (HX.out _).mono ?_
    rintro e w1 ⟨rfl, rfl⟩
    go_wp2_with fail
    simp only [Exit.jump]
    refine bodyPost_ret (v := .tuple #[.string ⟨#[]⟩, .int .i64 0, .int .i64 121]) (by simp [results, Try.results61, go_sem]) rfl ⟨by rw [HB.out]; rfl, Below.refl _ _⟩
  have g10 : ((d.toNat : Int) == 10) = false := by rw [show (10 : Int) = ((10 : Nat) : Int) from rfl, e10]; exact decide_eq_false h10
  by_cases h92 : d = 92
  · have HB := Lib.hid (cutG_bad (d := d) (ln := ln) (l := t.data.toList) (i := i) (fun h => h.2.2.2 h92))
    have g92 : ((d.toNat : Int) == 92) = true := by rw [show (92 : Int) = ((92 : Nat) : Int) from rfl, e92]; exact decide_eq_true h92
    clear hv e10 e92 h10 h92
    go_enter Try.func61, Try.ntmps61
    go_wp2_with fail
    refine tk_wp_scope_again 0 (fun _ _ => False) (fun _ _ => 0) rfl ?_ (fun _ _ h => h.elim)
    intro hp
    clear hp
    go_wp2_with fail
    go_at_call 40
    refine (HX.out _).mono ?_
    rintro e w1 ⟨rfl, rfl⟩
    go_wp2_with fail
    simp only [Exit.jump]
    refine bodyPost_ret (v := .tuple #[.string ⟨#[]⟩, .int .i64 0, .int .i64 121]) (by simp [results, Try.results61, go_sem]) rfl ⟨by rw [HB.out]; rfl, Below.refl _ _⟩
  have g92 : ((d.toNat : Int) == 92) = false := by rw [show (92 : Int) = ((92 : Nat) : Int) from rfl, e92]; exact decide_eq_false h92
  obtain ⟨k, rfl⟩ : ∃ k : Nat, i = (k : Int) := ⟨i.toNat, by omega⟩
  obtain ⟨r, hr⟩ : ∃ r, r = cutG d ln t.data.toList (k : Int) := ⟨_, rfl⟩
  rw [← hr]
  have HS := Lib.hid (show CutJ d ln t.data.toList r w w k [] (.slice none 0 0) from ⟨by
    rw [hr]; unfold cutG; rw [if_pos ⟨by omega, by rw [← HSZ.out]; exact hv.2, h10, h92⟩]; simp, by rw [← HSZ.out]; omega, by simp, Buf.start w⟩)
  have HD := Lib.hid (And.intro h10 h92)
  clear hr hv e10 e92 h10 h92
  go_enter Try.func61, Try.ntmps61
  go_wp2_with fail
  refine tk_wp_scope_again 0 (fun a' w' => ∃ (m : Nat) (b : List UInt8) (v : Value), Hid (CutJ d ln t.data.toList r w w' m b v) ∧ ∃ u : Nat → Value, a' = { tmps := #[.string t, .int .i64 (m : Int), .int .u8 (d.toNat : Int), .bool ln, undef, undef, undef, undef, .string ⟨#[]⟩, .int .i64 0, .int .i64 0, v, u 12, u 13, u 14, u 15, u 16, u 17, u 18, u 19, u 20, u 21, u 22, u 23, u 24, u 25, u 26, u 27, u 28, u 29, u 30, u 31, u 32, u 33, u 34, u 35, u 36, u 37, u 38, u 39, u 40, u 41, u 42, u 43, u 44, u 45, u 46, u 47, u 48, u 49, u 50, u 51, u 52, u 53, u 54, u 55, u 56, u 57, u 58, u 59, u 60, u 61, u 62, u 63, u 64, u 65, u 66, u 67, u 68, u 69, u 70, u 71, u 72, u 73, u 74, u 75, u 76, u 77, u 78], defers := [] }) (fun a' _ => t.size + 1 - (intOf (a'.tmps.getD 1 undef)).toNat) rfl ?_ ?_
  · intro hp
    have HP := Lib.hid hp
    clear hp
    go_wp2_with fail
    go_at_call 40
    refine (HX.out _).mono ?_
    rintro e w1 ⟨rfl, rfl⟩
    go_wp2_with fail
    go_step3
    simp only [Exit.then]
    rename_i hK
    exact hK _ _ (HP.out _ _ ⟨k, [], _, HS, actF (by kernel_rfl)⟩)
  · rintro a' wr ⟨m, b, v, HJ, u, rfl⟩
    have hle := HJ.out.le
    rw [← HSZ.out] at hle
    by_cases hm : m = t.size
    · have gm : ((m : Int) == (t.size : Int)) = true := by rw [hm, beq_self_eq_true]
      have HE := Lib.hid (show r = none by rw [← HJ.out.eq]; exact cutAt_end (by rw [← HSZ.out, hm]; exact Nat.le_refl _))
      clear hm hle
      go_wp2_with fail
      simp only [Exit.jump]
      refine bodyPost_ret (v := .tuple #[.string ⟨#[]⟩, .int .i64 0, .int .i64 121]) (by simp [results, Try.results61, go_sem]) rfl ⟨by rw [HE.out]; rfl, HJ.out.buf.below⟩
    have gm : ((m : Int) == (t.size : Int)) = false := by rw [beq_eq_false_iff_ne]; omega
    have hlt : m < t.size := by omega
    obtain ⟨c, hc⟩ : ∃ c, t.data.toList[m]? = some c := ⟨_, List.getElem?_eq_getElem (by simpa using hlt)⟩
    have hat := tk_at_of rfl hc
    have hli : (m : Int) < (t.size : Int) := by omega
    have c10 := u8_is c 10 (by omega)
    have cd := u8_same c d
    have c92 := u8_is c 92 (by omega)
    by_cases h1 : c = 10
    · have q1 : ((c.toNat : Int) == 10) = true := by rw [show (10 : Int) = ((10 : Nat) : Int) from rfl, c10]; exact decide_eq_true h1
      have HE := Lib.hid (show r = none by rw [← HJ.out.eq]; exact cutAt_feed (by rw [hc, h1]))
      clear hm hle c10 cd c92 h1 hc
      go_wp2_with fail
      simp only [Exit.jump]
      refine bodyPost_ret (v := .tuple #[.string ⟨#[]⟩, .int .i64 0, .int .i64 121]) (by simp [results, Try.results61, go_sem]) rfl ⟨by rw [HE.out]; rfl, HJ.out.buf.below⟩
    have q1 : ((c.toNat : Int) == 10) = false := by rw [show (10 : Int) = ((10 : Nat) : Int) from rfl, c10]; exact decide_eq_false h1
    obtain ⟨m1, hm1⟩ : ∃ m1, m1 = m + 1 := ⟨_, rfl⟩
    have hwm := add1 (by have := HZ.out; omega) hm1
    by_cases h2 : c = d
    · have q2 : ((c.toNat : Int) == (d.toNat : Int)) = true := by rw [cd]; exact decide_eq_true h2
      have HE := Lib.hid (show r = some (b, m1) by rw [← HJ.out.eq, hm1]; exact cutAt_delim HD.out.1 (by rw [hc, h2]))
      have hcv := buf_text HJ.out.buf
      clear hm hle c10 cd c92 h1 h2 hc hm1
      go_wp2_with fail
      simp only [Exit.jump]
      refine bodyPost_ret (v := .tuple #[.string (txt b), .int .i64 (m1 : Int), .int .i64 0]) (by simp [results, Try.results61, go_sem]) rfl ⟨by rw [HE.out]; rfl, HJ.out.buf.below⟩
    have q2 : ((c.toNat : Int) == (d.toNat : Int)) = false := by rw [cd]; exact decide_eq_false h2
    have HML := Lib.hid (show t.size + 1 - m1 < t.size + 1 - m by omega)
    by_cases h3 : c = 92
    · have q3 : ((c.toNat : Int) == 92) = true := by rw [show (92 : Int) = ((92 : Nat) : Int) from rfl, c92]; exact decide_eq_true h3
      have hc9 : t.data.toList[m]? = some 92 := by rw [hc, h3]
      by_cases hm2 : m1 = t.size
      · have gm1 : ((m1 : Int) == (t.size : Int)) = true := by rw [hm2, beq_self_eq_true]
        have HE := Lib.hid (show r = none by rw [← HJ.out.eq]; exact cutAt_back_end HD.out.2 hc9 (by rw [← HSZ.out]; omega))
        clear hm hle c10 cd c92 h1 h2 h3 hc hm1 hm2 hc9
        go_wp2_with fail
        simp only [Exit.jump]
        refine bodyPost_ret (v := .tuple #[.string ⟨#[]⟩, .int .i64 0, .int .i64 121]) (by simp [results, Try.results61, go_sem]) rfl ⟨by rw [HE.out]; rfl, HJ.out.buf.below⟩
      have gm1 : ((m1 : Int) == (t.size : Int)) = false := by rw [beq_eq_false_iff_ne]; omega
      have hlt1 : m1 < t.size := by omega
      obtain ⟨x, hx⟩ : ∃ x, t.data.toList[m1]? = some x := ⟨_, List.getElem?_eq_getElem (by simpa using hlt1)⟩
      have hat1 := tk_at_of rfl hx
      have x10 := u8_is x 10 (by omega)
      have xd := u8_same x d
      obtain ⟨m2, hm3⟩ : ∃ m2, m2 = m1 + 1 := ⟨_, rfl⟩
      have hwm1 := add1 (by have := HZ.out; omega) hm3
      have HML2 := Lib.hid (show t.size + 1 - m2 < t.size + 1 - m by omega)
      by_cases hf : x = 10 ∧ ln = false
      · obtain ⟨hx10, rfl⟩ := hf
        have q4 : ((x.toNat : Int) == 10) = true := by rw [show (10 : Int) = ((10 : Nat) : Int) from rfl, x10]; exact decide_eq_true hx10
        have HE := Lib.hid (show r = none by rw [← HJ.out.eq]; exact cutAt_back_feed HD.out.2 hc9 (by rw [← hm1, hx, hx10]))
        clear hm hle c10 cd c92 h1 h2 h3 hc hm1 hm2 hc9 hm3 hwm1 x10 xd hx hx10
        go_wp2_with fail
        simp only [Exit.jump]
        refine bodyPost_ret (v := .tuple #[.string ⟨#[]⟩, .int .i64 0, .int .i64 121]) (by simp [results, Try.results61, go_sem]) rfl ⟨by rw [HE.out]; rfl, HJ.out.buf.below⟩
      have HBN := Lib.hid (show b.length + 2 ≤ 1099511627776 by have := HJ.out.len; have := HZ.out; omega)
      have HL2 := Lib.hid (show b.length + 2 ≤ 2 * m2 ∧ m2 ≤ t.data.toList.length by have := HJ.out.len; rw [← HSZ.out]; omega)
      have hst := cutAt_back HD.out.2 (b := b) hc9 (by rw [← hm1]; exact hx) hf
      rw [show m + 2 = m2 by omega, HJ.out.eq] at hst
      have hli1 : (m1 : Int) < (t.size : Int) := by omega
      by_cases hxd : x = d
      · have q5 : ((x.toNat : Int) != (d.toNat : Int)) = false := by rw [bne, xd]; simp [hxd]
        rw [if_pos hxd] at hst
        have HN := Lib.hid (show ∀ v' w', Buf w w' v' (b ++ [x]) → CutJ d ln t.data.toList r w w' m2 (b ++ [x]) v' from fun v' w' hb => ⟨hst.symm, HL2.out.2, by have := HL2.out.1; simp only [List.length_append, List.length_cons, List.length_nil]; omega, hb⟩)
        have HBN1 := Lib.hid (show b.length + 1 ≤ 1099511627776 by have := HBN.out; omega)
        by_cases hx10 : x = 10
        · have q4 : ((x.toNat : Int) == 10) = true := by rw [show (10 : Int) = ((10 : Nat) : Int) from rfl, x10]; exact decide_eq_true hx10
          have hln : ln = true := by cases ln with
            | true => rfl
            | false => exact absurd ⟨hx10, rfl⟩ hf
          subst hln
          clear hm hle c10 cd c92 h1 h2 h3 hc hm1 hm2 hc9 hm3 x10 xd hx hst hf hxd hx10
          go_upto_region 14 with fail
          go_wp2_with (refine wpList_put 76 x HJ.out.buf rfl rfl rfl HBN1.out ?_)
          intro v' w' hb'
          have HB' := Lib.hid (HN.out v' w' hb')
          clear hb'
          go_wp2_with fail
          go_step3
          exact ⟨rfl, ⟨m2, _, _, HB', actF (by kernel_rfl)⟩, by simpa [intOf] using HML2.out⟩
        · have q4 : ((x.toNat : Int) == 10) = false := by rw [show (10 : Int) = ((10 : Nat) : Int) from rfl, x10]; exact decide_eq_false hx10
          clear hm hle c10 cd c92 h1 h2 h3 hc hm1 hm2 hc9 hm3 x10 xd hx hst hf hxd hx10
          go_upto_region 14 with fail
          go_wp2_with (refine wpList_put 76 x HJ.out.buf rfl rfl rfl HBN1.out ?_)
          intro v' w' hb'
          have HB' := Lib.hid (HN.out v' w' hb')
          clear hb'
          go_wp2_with fail
          go_step3
          exact ⟨rfl, ⟨m2, _, _, HB', actF (by kernel_rfl)⟩, by simpa [intOf] using HML2.out⟩
      · have q5 : ((x.toNat : Int) != (d.toNat : Int)) = true := by rw [bne, xd]; simp [hxd]
        rw [if_neg hxd] at hst
        have HN := Lib.hid (show ∀ v' w', Buf w w' v' (b ++ [92] ++ [x]) → CutJ d ln t.data.toList r w w' m2 (b ++ [92] ++ [x]) v' from fun v' w' hb => ⟨by rw [List.append_assoc]; exact hst.symm, HL2.out.2, by have := HL2.out.1; simp only [List.length_append, List.length_cons, List.length_nil]; omega, hb⟩)
        have HBN1 := Lib.hid (show b.length + 1 ≤ 1099511627776 by have := HBN.out; omega)
        have HBN2 := Lib.hid (show (b ++ [92]).length + 1 ≤ 1099511627776 by have := HBN.out; simp only [List.length_append, List.length_cons, List.length_nil]; omega)
        by_cases hx10 : x = 10
        · have q4 : ((x.toNat : Int) == 10) = true := by rw [show (10 : Int) = ((10 : Nat) : Int) from rfl, x10]; exact decide_eq_true hx10
          have hln : ln = true := by cases ln with
            | true => rfl
            | false => exact absurd ⟨hx10, rfl⟩ hf
          subst hln
          clear hm hle c10 cd c92 h1 h2 h3 hc hm1 hm2 hc9 hm3 x10 xd hx hst hf hxd hx10
          go_upto_region 13 with fail
          go_wp2_with (refine wpList_put 70 92 HJ.out.buf rfl rfl rfl HBN1.out ?_)
          intro v1 w1 hb1
          have HB1 := Lib.hid hb1
          clear hb1
          go_upto_region 14 with fail
          go_wp2_with (refine wpList_put 76 x HB1.out rfl rfl rfl HBN2.out ?_)
          intro v' w' hb'
          have HB' := Lib.hid (HN.out v' w' hb')
          clear hb'
          go_wp2_with fail
          go_step3
          exact ⟨rfl, ⟨m2, _, _, HB', actF (by kernel_rfl)⟩, by simpa [intOf] using HML2.out⟩
        · have q4 : ((x.toNat : Int) == 10) = false := by rw [show (10 : Int) = ((10 : Nat) : Int) from rfl, x10]; exact decide_eq_false hx10
          clear hm hle c10 cd c92 h1 h2 h3 hc hm1 hm2 hc9 hm3 x10 xd hx hst hf hxd hx10
          go_upto_region 13 with fail
          go_wp2_with (refine wpList_put 70 92 HJ.out.buf rfl rfl rfl HBN1.out ?_)
          intro v1 w1 hb1
          have HB1 := Lib.hid hb1
          clear hb1
          go_upto_region 14 with fail
          go_wp2_with (refine wpList_put 76 x HB1.out rfl rfl rfl HBN2.out ?_)
          intro v' w' hb'
          have HB' := Lib.hid (HN.out v' w' hb')
          clear hb'
          go_wp2_with fail
          go_step3
          exact ⟨rfl, ⟨m2, _, _, HB', actF (by kernel_rfl)⟩, by simpa [intOf] using HML2.out⟩
    · have q3 : ((c.toNat : Int) == 92) = false := by rw [show (92 : Int) = ((92 : Nat) : Int) from rfl, c92]; exact decide_eq_false h3
      have HBN := Lib.hid (show b.length + 1 ≤ 1099511627776 by have := HJ.out.len; have := HZ.out; omega)
      have HN := Lib.hid (show ∀ v' w', Buf w w' v' (b ++ [c]) → CutJ d ln t.data.toList r w w' m1 (b ++ [c]) v' from fun v' w' hb => ⟨by rw [← HJ.out.eq, hm1]; exact (cutAt_other hc h1 h2 h3).symm, by rw [← HSZ.out]; omega, by have := HJ.out.len; simp only [List.length_append, List.length_cons, List.length_nil]; omega, hb⟩)
      clear hm hle c10 cd c92 h1 h2 h3 hc hm1
      go_upto_region 14 with fail
      go_wp2_with (refine wpList_put 76 c HJ.out.buf rfl rfl rfl HBN.out ?_)
      intro v' w' hb'
      have HB' := Lib.hid (HN.out v' w' hb')
      clear hb'
      go_wp2_with fail
      go_step3
      exact ⟨rfl, ⟨m1, _, _, HB', actF (by kernel_rfl)⟩, by simpa [intOf] using HML.out⟩
end Go.Proofs.Ytncbmdbfdjhkeaa
