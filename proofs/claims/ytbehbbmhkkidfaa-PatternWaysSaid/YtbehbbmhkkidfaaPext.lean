/-
  The program's tokens: the token that a basic and an extended pattern begins with. Conditions: Bracket's answers are told by a function of the text; a text of at most 4096 bytes; the world holds what strings.Index asks.
-/
import Derived.Test.YtbehbbmhkkidfaaPint
namespace Go.Proofs.Ytbehbbmhkkidfaa
open Go.RowKit Go.Deep

theorem tok_eta (t : Tok) : t.v = .agg #[.int .i64 t.kind, .int .u64 (t.set 0), .int .u64 (t.set 1), .int .u64 (t.set 2), .int .u64 (t.set 3), .int .i64 t.lo, .int .i64 t.hi] := rfl
theorem byte_t {c : UInt8} {k : UInt8} {n : Nat} (hk : k.toNat = n) (h : c = k) : ((c.toNat : Int) == (n : Int)) = true := by rw [u8_test c n k hk, beq_iff_eq]; exact h
theorem byte_f {c : UInt8} {k : UInt8} {n : Nat} (hk : k.toNat = n) (h : c ≠ k) : ((c.toNat : Int) == (n : Int)) = false := by rw [u8_test c n k hk, beq_eq_false_iff_ne]; exact h

set_option maxRecDepth 100000 in
set_option maxHeartbeats 4000000 in
theorem basic_escape (s : ByteArray) {r : List UInt8} (hl : s.data.toList = 92 :: r) (hz : s.size ≤ 4096) (w : World) (hM : MaxAt w) : Calls Try.prog 33 #[.string s] w (TokAns (basEsc r) w) := by
  have P1 := has_prefix s ⟨#[92, 40]⟩
  have P2 := has_prefix s ⟨#[92, 41]⟩
  have P3 := has_prefix s ⟨#[92, 123]⟩
  have p1 : pre ⟨#[92, 40]⟩ s = [40].isPrefixOf r := by unfold pre; rw [hl]; rfl
  have p2 : pre ⟨#[92, 41]⟩ s = [41].isPrefixOf r := by unfold pre; rw [hl]; rfl
  have p3 : pre ⟨#[92, 123]⟩ s = [123].isPrefixOf r := by unfold pre; rw [hl]; rfl
  rw [p1] at P1
  rw [p2] at P2
  rw [p3] at P3
  have HP1 := Lib.hid P1
  have HP2 := Lib.hid P2
  have HP3 := Lib.hid P3
  unfold TokAns
  clear p1 p2 p3 P1 P2 P3
  obtain ⟨ans, ea⟩ : ∃ x, x = basEsc r := ⟨_, rfl⟩
  rw [← ea]
  cases b1 : [40].isPrefixOf r with
  | true =>
    rw [b1] at HP1
    have HE := Lib.hid (show ans = (Tok.of 4, 2) by rw [ea]; unfold basEsc; rw [b1]; rfl)
    clear hl hz hM b1 ea HP2 HP3
    go_enter Try.func33, Try.ntmps33
    go_wp2_with fail
    go_at_call 34
    refine (HP1.out _).mono ?_
    rintro e w0 ⟨rfl, rfl⟩
    go_wp2_with fail
    refine bodyPost_ret (v := .tuple #[.agg #[.int .i64 4, .int .u64 0, .int .u64 0, .int .u64 0, .int .u64 0, .int .i64 0, .int .i64 0], .int .i64 2]) (by simp [results, Try.results33, go_sem]) rfl ⟨by rw [HE.out]; rfl, ?_⟩
    exact bA w _
  | false =>
    rw [b1] at HP1
    cases b2 : [41].isPrefixOf r with
    | true =>
      rw [b2] at HP2
      have HE := Lib.hid (show ans = (Tok.of 5, 2) by rw [ea]; unfold basEsc; rw [b1, b2]; rfl)
      clear hl hz hM b1 b2 ea HP3
      go_enter Try.func33, Try.ntmps33
      go_wp2_with fail
      go_at_call 34
      refine (HP1.out _).mono ?_
      rintro e w0 ⟨rfl, rfl⟩
      go_wp2_with fail
      go_at_call 34
      refine (HP2.out _).mono ?_
      rintro e w0 ⟨rfl, rfl⟩
      go_wp2_with fail
      refine bodyPost_ret (v := .tuple #[.agg #[.int .i64 5, .int .u64 0, .int .u64 0, .int .u64 0, .int .u64 0, .int .i64 0, .int .i64 0], .int .i64 2]) (by simp [results, Try.results33, go_sem]) rfl ⟨by rw [HE.out]; rfl, ?_⟩
      exact bA w _
    | false =>
      rw [b2] at HP2
      cases b3 : [123].isPrefixOf r with
      | true =>
        rw [b3] at HP3
        have hr1 : 1 ≤ r.length := by
          cases r with
          | nil => cases b3
          | cons x y => simp
        have h9 := interval_tok s ⟨#[92, 123]⟩ ⟨#[92, 125]⟩ (r := r.drop 1) (by rw [size_cons hl]; show 2 ≤ _; omega) (by rw [drop_of, hl]; rfl) hz (by decide) (w.alloc (.cells #[.int .i64 0, .int .u64 0, .int .u64 0, .int .u64 0, .int .u64 0, .int .i64 0, .int .i64 0] 60)) (hM.below (bA w _))
        have HE := Lib.hid (show ans = intT 2 [92, 125] (r.drop 1) by rw [ea]; unfold basEsc; rw [b1, b2, b3]; rfl)
        rw [show (⟨#[92, 123]⟩ : ByteArray).size = 2 from rfl, show (⟨#[92, 125]⟩ : ByteArray).data.toList = [92, 125] from rfl] at h9
        obtain ⟨⟨T, n⟩, hT⟩ : ∃ T, T = intT 2 [92, 125] (r.drop 1) := ⟨_, rfl⟩
        rw [← hT] at h9 HE
        unfold TokAns Tok.v at h9
        have H9 := Lib.hid h9
        clear hl hz hM b1 b2 b3 ea hr1 h9 hT
        go_enter Try.func33, Try.ntmps33
        go_wp2_with fail
        go_at_call 34
        refine (HP1.out _).mono ?_
        rintro e w0 ⟨rfl, rfl⟩
        go_wp2_with fail
        go_at_call 34
        refine (HP2.out _).mono ?_
        rintro e w0 ⟨rfl, rfl⟩
        go_wp2_with fail
        go_at_call 34
        refine (HP3.out _).mono ?_
        rintro e w0 ⟨rfl, rfl⟩
        go_wp2_with fail
        go_at_call 31
        refine H9.out.mono ?_
        rintro e w1 ⟨rfl, hb1⟩
        obtain ⟨⟨k0, k1, k2, k3, k4, k5, k6⟩, f0, f1, f2, f3, f4, f5, f6⟩ := box7 hb1 (by simp)
        have HB := Lib.hid ((bA w _).trans (hb1.mono (by simp)))
        clear hb1
        go_wp2_with fail
        refine bodyPost_ret (v := .tuple #[T.v, .int .i64 (n : Int)]) (by simp [results, Try.results33, go_sem, Tok.v, k0, k1, k2, k3, k4, k5, k6]) rfl ⟨by rw [HE.out], ?_⟩
        exact below7 HB.out (Nat.le_refl _) _ _ _ _ _ _ _
      | false =>
        rw [b3] at HP3
        have h9 := escaped_is s ⟨#[46, 91, 93, 92, 42, 94, 36, 47]⟩ hl (w.alloc (.cells #[.int .i64 0, .int .u64 0, .int .u64 0, .int .u64 0, .int .u64 0, .int .i64 0, .int .i64 0] 60))
        have HE := Lib.hid (show ans = escT escB r by rw [ea]; unfold basEsc; rw [b1, b2, b3]; rfl)
        rw [show (⟨#[46, 91, 93, 92, 42, 94, 36, 47]⟩ : ByteArray).data.toList = escB from rfl] at h9
        obtain ⟨⟨T, n⟩, hT⟩ : ∃ T, T = escT escB r := ⟨_, rfl⟩
        rw [← hT] at h9 HE
        unfold TokAns Tok.v at h9
        have H9 := Lib.hid h9
        clear hl hz hM b1 b2 b3 ea h9 hT
        go_enter Try.func33, Try.ntmps33
        go_wp2_with fail
        go_at_call 34
        refine (HP1.out _).mono ?_
        rintro e w0 ⟨rfl, rfl⟩
        go_wp2_with fail
        go_at_call 34
        refine (HP2.out _).mono ?_
        rintro e w0 ⟨rfl, rfl⟩
        go_wp2_with fail
        go_at_call 34
        refine (HP3.out _).mono ?_
        rintro e w0 ⟨rfl, rfl⟩
        go_wp2_with fail
        go_at_call 29
        refine H9.out.mono ?_
        rintro e w1 ⟨rfl, hb1⟩
        obtain ⟨⟨k0, k1, k2, k3, k4, k5, k6⟩, f0, f1, f2, f3, f4, f5, f6⟩ := box7 hb1 (by simp)
        have HB := Lib.hid ((bA w _).trans (hb1.mono (by simp)))
        clear hb1
        go_wp2_with fail
        refine bodyPost_ret (v := .tuple #[T.v, .int .i64 (n : Int)]) (by simp [results, Try.results33, go_sem, Tok.v, k0, k1, k2, k3, k4, k5, k6]) rfl ⟨by rw [HE.out], ?_⟩
        exact below7 HB.out (Nat.le_refl _) _ _ _ _ _ _ _

set_option maxRecDepth 100000 in
set_option maxHeartbeats 8000000 in
theorem extended_token {bk : BkF} (hbk : BkIs bk) (s : ByteArray) {c : UInt8} {r : List UInt8} (hl : s.data.toList = c :: r) (hz : s.size ≤ 4096) (w : World) (hM : MaxAt w) : Calls Try.prog 24 #[.string s] w (TokAns (extT bk (c :: r)) w) := by
  have hs : 0 < s.size := by rw [size_cons hl]; omega
  have hsi : (0 : Int) < (s.size : Int) := by omega
  have h0 := at_of hl (i := 0) (c := c) rfl
  have hdr := drop_one hl
  unfold TokAns
  obtain ⟨ans, ea⟩ : ∃ x, x = extT bk (c :: r) := ⟨_, rfl⟩
  rw [← ea]
  by_cases e46 : c = 46
  · have hq : True := trivial
    have t46 : ((c.toNat : Int) == 46) = true := byte_t (k := 46) (n := 46) rfl e46
    have h9 := any_byte (w.alloc (.cells #[.int .i64 0, .int .u64 0, .int .u64 0, .int .u64 0, .int .u64 0, .int .i64 0, .int .i64 0] 60))
    have HE := Lib.hid (show ans = (anyT, 1) by rw [ea, e46]; simp [extT])
    obtain ⟨T, hT⟩ : ∃ T, T = anyT := ⟨_, rfl⟩
    rw [← hT] at h9 HE
    clear hT
    unfold TokOne Tok.v at h9
    have H9 := Lib.hid h9
    clear h9 hl hz hM ea e46  hdr hbk hq
    go_enter Try.func24, Try.ntmps24
    go_wp2_with fail
    go_at_call 27
    refine H9.out.mono ?_
    rintro e w1 ⟨rfl, hb1⟩
    obtain ⟨⟨k0, k1, k2, k3, k4, k5, k6⟩, f0, f1, f2, f3, f4, f5, f6⟩ := box7 hb1 (by simp)
    have HB := Lib.hid ((bA w _).trans (hb1.mono (by simp)))
    clear hb1
    go_wp2_with fail
    refine bodyPost_ret (v := .tuple #[T.v, .int .i64 1]) (by simp [results, Try.results24, go_sem, Tok.v, k0, k1, k2, k3, k4, k5, k6]) rfl ⟨by rw [HE.out]; rfl, ?_⟩
    exact below7 HB.out (Nat.le_refl _) _ _ _ _ _ _ _
  · have n46 : c ≠ 46 := e46
    clear e46
    by_cases e91 : c = 91
    · have hq : True := trivial
      have t46 : ((c.toNat : Int) == 46) = false := byte_f (k := 46) (n := 46) rfl n46
      have t91 : ((c.toNat : Int) == 91) = true := byte_t (k := 91) (n := 91) rfl e91
      have h9 := bracket_tok hbk s hl hz (w.alloc (.cells #[.int .i64 0, .int .u64 0, .int .u64 0, .int .u64 0, .int .u64 0, .int .i64 0, .int .i64 0] 60)) (hM.below (bA w _))
      have HE := Lib.hid (show ans = brkT bk r by rw [ea, e91]; simp [extT])
      obtain ⟨⟨T, n⟩, hT⟩ : ∃ T, T = brkT bk r := ⟨_, rfl⟩
      rw [← hT] at h9 HE
      clear hT
      unfold TokAns Tok.v at h9
      have H9 := Lib.hid h9
      clear h9 hl hz hM ea e91 n46 hdr hbk hq
      go_enter Try.func24, Try.ntmps24
      go_wp2_with fail
      go_at_call 28
      refine H9.out.mono ?_
      rintro e w1 ⟨rfl, hb1⟩
      obtain ⟨⟨k0, k1, k2, k3, k4, k5, k6⟩, f0, f1, f2, f3, f4, f5, f6⟩ := box7 hb1 (by simp)
      have HB := Lib.hid ((bA w _).trans (hb1.mono (by simp)))
      clear hb1
      go_wp2_with fail
      refine bodyPost_ret (v := .tuple #[T.v, .int .i64 (n : Int)]) (by simp [results, Try.results24, go_sem, Tok.v, k0, k1, k2, k3, k4, k5, k6]) rfl ⟨by rw [HE.out], ?_⟩
      exact below7 HB.out (Nat.le_refl _) _ _ _ _ _ _ _
    · have n91 : c ≠ 91 := e91
      clear e91
      by_cases e92 : c = 92
      · have hq : True := trivial
        have t46 : ((c.toNat : Int) == 46) = false := byte_f (k := 46) (n := 46) rfl n46
        have t91 : ((c.toNat : Int) == 91) = false := byte_f (k := 91) (n := 91) rfl n91
        have t92 : ((c.toNat : Int) == 92) = true := byte_t (k := 92) (n := 92) rfl e92
        have h9 := escaped_is s ⟨#[46, 91, 93, 92, 42, 94, 36, 47, 40, 41, 124, 43, 63, 123, 125]⟩ hl (w.alloc (.cells #[.int .i64 0, .int .u64 0, .int .u64 0, .int .u64 0, .int .u64 0, .int .i64 0, .int .i64 0] 60))
        rw [show (⟨#[46, 91, 93, 92, 42, 94, 36, 47, 40, 41, 124, 43, 63, 123, 125]⟩ : ByteArray).data.toList = escE from rfl] at h9
        have HE := Lib.hid (show ans = escT escE r by rw [ea, e92]; simp [extT])
        obtain ⟨⟨T, n⟩, hT⟩ : ∃ T, T = escT escE r := ⟨_, rfl⟩
        rw [← hT] at h9 HE
        clear hT
        unfold TokAns Tok.v at h9
        have H9 := Lib.hid h9
        clear h9 hl hz hM ea e92 n46 n91 hdr hbk hq
        go_enter Try.func24, Try.ntmps24
        go_wp2_with fail
        go_at_call 29
        refine H9.out.mono ?_
        rintro e w1 ⟨rfl, hb1⟩
        obtain ⟨⟨k0, k1, k2, k3, k4, k5, k6⟩, f0, f1, f2, f3, f4, f5, f6⟩ := box7 hb1 (by simp)
        have HB := Lib.hid ((bA w _).trans (hb1.mono (by simp)))
        clear hb1
        go_wp2_with fail
        refine bodyPost_ret (v := .tuple #[T.v, .int .i64 (n : Int)]) (by simp [results, Try.results24, go_sem, Tok.v, k0, k1, k2, k3, k4, k5, k6]) rfl ⟨by rw [HE.out], ?_⟩
        exact below7 HB.out (Nat.le_refl _) _ _ _ _ _ _ _
      · have n92 : c ≠ 92 := e92
        clear e92
        by_cases e94 : c = 94
        · have hq : True := trivial
          have t46 : ((c.toNat : Int) == 46) = false := byte_f (k := 46) (n := 46) rfl n46
          have t91 : ((c.toNat : Int) == 91) = false := byte_f (k := 91) (n := 91) rfl n91
          have t92 : ((c.toNat : Int) == 92) = false := byte_f (k := 92) (n := 92) rfl n92
          have t94 : ((c.toNat : Int) == 94) = true := byte_t (k := 94) (n := 94) rfl e94
          have HE := Lib.hid (show ans = (Tok.of 2, 1) by rw [ea, e94]; simp [extT])
          clear hl hz hM ea e94 n46 n91 n92 hdr hbk hq
          go_enter Try.func24, Try.ntmps24
          go_wp2_with fail
          refine bodyPost_ret (v := .tuple #[.agg #[.int .i64 2, .int .u64 0, .int .u64 0, .int .u64 0, .int .u64 0, .int .i64 0, .int .i64 0], .int .i64 1]) (by simp [results, Try.results24, go_sem]) rfl ⟨by rw [HE.out]; rfl, ?_⟩
          exact bA w _
        · have n94 : c ≠ 94 := e94
          clear e94
          by_cases e36 : c = 36
          · have hq : True := trivial
            have t46 : ((c.toNat : Int) == 46) = false := byte_f (k := 46) (n := 46) rfl n46
            have t91 : ((c.toNat : Int) == 91) = false := byte_f (k := 91) (n := 91) rfl n91
            have t92 : ((c.toNat : Int) == 92) = false := byte_f (k := 92) (n := 92) rfl n92
            have t94 : ((c.toNat : Int) == 94) = false := byte_f (k := 94) (n := 94) rfl n94
            have t36 : ((c.toNat : Int) == 36) = true := byte_t (k := 36) (n := 36) rfl e36
            have HE := Lib.hid (show ans = (Tok.of 3, 1) by rw [ea, e36]; simp [extT])
            clear hl hz hM ea e36 n46 n91 n92 n94 hdr hbk hq
            go_enter Try.func24, Try.ntmps24
            go_wp2_with fail
            refine bodyPost_ret (v := .tuple #[.agg #[.int .i64 3, .int .u64 0, .int .u64 0, .int .u64 0, .int .u64 0, .int .i64 0, .int .i64 0], .int .i64 1]) (by simp [results, Try.results24, go_sem]) rfl ⟨by rw [HE.out]; rfl, ?_⟩
            exact bA w _
          · have n36 : c ≠ 36 := e36
            clear e36
            by_cases e40 : c = 40
            · have hq : True := trivial
              have t46 : ((c.toNat : Int) == 46) = false := byte_f (k := 46) (n := 46) rfl n46
              have t91 : ((c.toNat : Int) == 91) = false := byte_f (k := 91) (n := 91) rfl n91
              have t92 : ((c.toNat : Int) == 92) = false := byte_f (k := 92) (n := 92) rfl n92
              have t94 : ((c.toNat : Int) == 94) = false := byte_f (k := 94) (n := 94) rfl n94
              have t36 : ((c.toNat : Int) == 36) = false := byte_f (k := 36) (n := 36) rfl n36
              have t40 : ((c.toNat : Int) == 40) = true := byte_t (k := 40) (n := 40) rfl e40
              have HE := Lib.hid (show ans = (Tok.of 4, 1) by rw [ea, e40]; simp [extT])
              clear hl hz hM ea e40 n46 n91 n92 n94 n36 hdr hbk hq
              go_enter Try.func24, Try.ntmps24
              go_wp2_with fail
              refine bodyPost_ret (v := .tuple #[.agg #[.int .i64 4, .int .u64 0, .int .u64 0, .int .u64 0, .int .u64 0, .int .i64 0, .int .i64 0], .int .i64 1]) (by simp [results, Try.results24, go_sem]) rfl ⟨by rw [HE.out]; rfl, ?_⟩
              exact bA w _
            · have n40 : c ≠ 40 := e40
              clear e40
              by_cases e41 : c = 41
              · have hq : True := trivial
                have t46 : ((c.toNat : Int) == 46) = false := byte_f (k := 46) (n := 46) rfl n46
                have t91 : ((c.toNat : Int) == 91) = false := byte_f (k := 91) (n := 91) rfl n91
                have t92 : ((c.toNat : Int) == 92) = false := byte_f (k := 92) (n := 92) rfl n92
                have t94 : ((c.toNat : Int) == 94) = false := byte_f (k := 94) (n := 94) rfl n94
                have t36 : ((c.toNat : Int) == 36) = false := byte_f (k := 36) (n := 36) rfl n36
                have t40 : ((c.toNat : Int) == 40) = false := byte_f (k := 40) (n := 40) rfl n40
                have t41 : ((c.toNat : Int) == 41) = true := byte_t (k := 41) (n := 41) rfl e41
                have HE := Lib.hid (show ans = (Tok.of 5, 1) by rw [ea, e41]; simp [extT])
                clear hl hz hM ea e41 n46 n91 n92 n94 n36 n40 hdr hbk hq
                go_enter Try.func24, Try.ntmps24
                go_wp2_with fail
                refine bodyPost_ret (v := .tuple #[.agg #[.int .i64 5, .int .u64 0, .int .u64 0, .int .u64 0, .int .u64 0, .int .i64 0, .int .i64 0], .int .i64 1]) (by simp [results, Try.results24, go_sem]) rfl ⟨by rw [HE.out]; rfl, ?_⟩
                exact bA w _
              · have n41 : c ≠ 41 := e41
                clear e41
                by_cases e124 : c = 124
                · have hq : True := trivial
                  have t46 : ((c.toNat : Int) == 46) = false := byte_f (k := 46) (n := 46) rfl n46
                  have t91 : ((c.toNat : Int) == 91) = false := byte_f (k := 91) (n := 91) rfl n91
                  have t92 : ((c.toNat : Int) == 92) = false := byte_f (k := 92) (n := 92) rfl n92
                  have t94 : ((c.toNat : Int) == 94) = false := byte_f (k := 94) (n := 94) rfl n94
                  have t36 : ((c.toNat : Int) == 36) = false := byte_f (k := 36) (n := 36) rfl n36
                  have t40 : ((c.toNat : Int) == 40) = false := byte_f (k := 40) (n := 40) rfl n40
                  have t41 : ((c.toNat : Int) == 41) = false := byte_f (k := 41) (n := 41) rfl n41
                  have t124 : ((c.toNat : Int) == 124) = true := byte_t (k := 124) (n := 124) rfl e124
                  have HE := Lib.hid (show ans = (Tok.of 6, 1) by rw [ea, e124]; simp [extT])
                  clear hl hz hM ea e124 n46 n91 n92 n94 n36 n40 n41 hdr hbk hq
                  go_enter Try.func24, Try.ntmps24
                  go_wp2_with fail
                  refine bodyPost_ret (v := .tuple #[.agg #[.int .i64 6, .int .u64 0, .int .u64 0, .int .u64 0, .int .u64 0, .int .i64 0, .int .i64 0], .int .i64 1]) (by simp [results, Try.results24, go_sem]) rfl ⟨by rw [HE.out]; rfl, ?_⟩
                  exact bA w _
                · have n124 : c ≠ 124 := e124
                  clear e124
                  by_cases e42 : c = 42
                  · have hq : True := trivial
                    have t46 : ((c.toNat : Int) == 46) = false := byte_f (k := 46) (n := 46) rfl n46
                    have t91 : ((c.toNat : Int) == 91) = false := byte_f (k := 91) (n := 91) rfl n91
                    have t92 : ((c.toNat : Int) == 92) = false := byte_f (k := 92) (n := 92) rfl n92
                    have t94 : ((c.toNat : Int) == 94) = false := byte_f (k := 94) (n := 94) rfl n94
                    have t36 : ((c.toNat : Int) == 36) = false := byte_f (k := 36) (n := 36) rfl n36
                    have t40 : ((c.toNat : Int) == 40) = false := byte_f (k := 40) (n := 40) rfl n40
                    have t41 : ((c.toNat : Int) == 41) = false := byte_f (k := 41) (n := 41) rfl n41
                    have t124 : ((c.toNat : Int) == 124) = false := byte_f (k := 124) (n := 124) rfl n124
                    have t42 : ((c.toNat : Int) == 42) = true := byte_t (k := 42) (n := 42) rfl e42
                    have h9 := repetition_is 0 (-1) (w.alloc (.cells #[.int .i64 0, .int .u64 0, .int .u64 0, .int .u64 0, .int .u64 0, .int .i64 0, .int .i64 0] 60))
                    have HE := Lib.hid (show ans = (repT 0 (-1), 1) by rw [ea, e42]; simp [extT])
                    obtain ⟨T, hT⟩ : ∃ T, T = repT 0 (-1) := ⟨_, rfl⟩
                    rw [← hT] at h9 HE
                    clear hT
                    unfold TokOne Tok.v at h9
                    have H9 := Lib.hid h9
                    clear h9 hl hz hM ea e42 n46 n91 n92 n94 n36 n40 n41 n124 hdr hbk hq
                    go_enter Try.func24, Try.ntmps24
                    go_wp2_with fail
                    go_at_call 30
                    refine H9.out.mono ?_
                    rintro e w1 ⟨rfl, hb1⟩
                    obtain ⟨⟨k0, k1, k2, k3, k4, k5, k6⟩, f0, f1, f2, f3, f4, f5, f6⟩ := box7 hb1 (by simp)
                    have HB := Lib.hid ((bA w _).trans (hb1.mono (by simp)))
                    clear hb1
                    go_wp2_with fail
                    refine bodyPost_ret (v := .tuple #[T.v, .int .i64 1]) (by simp [results, Try.results24, go_sem, Tok.v, k0, k1, k2, k3, k4, k5, k6]) rfl ⟨by rw [HE.out]; rfl, ?_⟩
                    exact below7 HB.out (Nat.le_refl _) _ _ _ _ _ _ _
                  · have n42 : c ≠ 42 := e42
                    clear e42
                    by_cases e43 : c = 43
                    · have hq : True := trivial
                      have t46 : ((c.toNat : Int) == 46) = false := byte_f (k := 46) (n := 46) rfl n46
                      have t91 : ((c.toNat : Int) == 91) = false := byte_f (k := 91) (n := 91) rfl n91
                      have t92 : ((c.toNat : Int) == 92) = false := byte_f (k := 92) (n := 92) rfl n92
                      have t94 : ((c.toNat : Int) == 94) = false := byte_f (k := 94) (n := 94) rfl n94
                      have t36 : ((c.toNat : Int) == 36) = false := byte_f (k := 36) (n := 36) rfl n36
                      have t40 : ((c.toNat : Int) == 40) = false := byte_f (k := 40) (n := 40) rfl n40
                      have t41 : ((c.toNat : Int) == 41) = false := byte_f (k := 41) (n := 41) rfl n41
                      have t124 : ((c.toNat : Int) == 124) = false := byte_f (k := 124) (n := 124) rfl n124
                      have t42 : ((c.toNat : Int) == 42) = false := byte_f (k := 42) (n := 42) rfl n42
                      have t43 : ((c.toNat : Int) == 43) = true := byte_t (k := 43) (n := 43) rfl e43
                      have h9 := repetition_is 1 (-1) (w.alloc (.cells #[.int .i64 0, .int .u64 0, .int .u64 0, .int .u64 0, .int .u64 0, .int .i64 0, .int .i64 0] 60))
                      have HE := Lib.hid (show ans = (repT 1 (-1), 1) by rw [ea, e43]; simp [extT])
                      obtain ⟨T, hT⟩ : ∃ T, T = repT 1 (-1) := ⟨_, rfl⟩
                      rw [← hT] at h9 HE
                      clear hT
                      unfold TokOne Tok.v at h9
                      have H9 := Lib.hid h9
                      clear h9 hl hz hM ea e43 n46 n91 n92 n94 n36 n40 n41 n124 n42 hdr hbk hq
                      go_enter Try.func24, Try.ntmps24
                      go_wp2_with fail
                      go_at_call 30
                      refine H9.out.mono ?_
                      rintro e w1 ⟨rfl, hb1⟩
                      obtain ⟨⟨k0, k1, k2, k3, k4, k5, k6⟩, f0, f1, f2, f3, f4, f5, f6⟩ := box7 hb1 (by simp)
                      have HB := Lib.hid ((bA w _).trans (hb1.mono (by simp)))
                      clear hb1
                      go_wp2_with fail
                      refine bodyPost_ret (v := .tuple #[T.v, .int .i64 1]) (by simp [results, Try.results24, go_sem, Tok.v, k0, k1, k2, k3, k4, k5, k6]) rfl ⟨by rw [HE.out]; rfl, ?_⟩
                      exact below7 HB.out (Nat.le_refl _) _ _ _ _ _ _ _
                    · have n43 : c ≠ 43 := e43
                      clear e43
                      by_cases e63 : c = 63
                      · have hq : True := trivial
                        have t46 : ((c.toNat : Int) == 46) = false := byte_f (k := 46) (n := 46) rfl n46
                        have t91 : ((c.toNat : Int) == 91) = false := byte_f (k := 91) (n := 91) rfl n91
                        have t92 : ((c.toNat : Int) == 92) = false := byte_f (k := 92) (n := 92) rfl n92
                        have t94 : ((c.toNat : Int) == 94) = false := byte_f (k := 94) (n := 94) rfl n94
                        have t36 : ((c.toNat : Int) == 36) = false := byte_f (k := 36) (n := 36) rfl n36
                        have t40 : ((c.toNat : Int) == 40) = false := byte_f (k := 40) (n := 40) rfl n40
                        have t41 : ((c.toNat : Int) == 41) = false := byte_f (k := 41) (n := 41) rfl n41
                        have t124 : ((c.toNat : Int) == 124) = false := byte_f (k := 124) (n := 124) rfl n124
                        have t42 : ((c.toNat : Int) == 42) = false := byte_f (k := 42) (n := 42) rfl n42
                        have t43 : ((c.toNat : Int) == 43) = false := byte_f (k := 43) (n := 43) rfl n43
                        have t63 : ((c.toNat : Int) == 63) = true := byte_t (k := 63) (n := 63) rfl e63
                        have h9 := repetition_is 0 1 (w.alloc (.cells #[.int .i64 0, .int .u64 0, .int .u64 0, .int .u64 0, .int .u64 0, .int .i64 0, .int .i64 0] 60))
                        have HE := Lib.hid (show ans = (repT 0 1, 1) by rw [ea, e63]; simp [extT])
                        obtain ⟨T, hT⟩ : ∃ T, T = repT 0 1 := ⟨_, rfl⟩
                        rw [← hT] at h9 HE
                        clear hT
                        unfold TokOne Tok.v at h9
                        have H9 := Lib.hid h9
                        clear h9 hl hz hM ea e63 n46 n91 n92 n94 n36 n40 n41 n124 n42 n43 hdr hbk hq
                        go_enter Try.func24, Try.ntmps24
                        go_wp2_with fail
                        go_at_call 30
                        refine H9.out.mono ?_
                        rintro e w1 ⟨rfl, hb1⟩
                        obtain ⟨⟨k0, k1, k2, k3, k4, k5, k6⟩, f0, f1, f2, f3, f4, f5, f6⟩ := box7 hb1 (by simp)
                        have HB := Lib.hid ((bA w _).trans (hb1.mono (by simp)))
                        clear hb1
                        go_wp2_with fail
                        refine bodyPost_ret (v := .tuple #[T.v, .int .i64 1]) (by simp [results, Try.results24, go_sem, Tok.v, k0, k1, k2, k3, k4, k5, k6]) rfl ⟨by rw [HE.out]; rfl, ?_⟩
                        exact below7 HB.out (Nat.le_refl _) _ _ _ _ _ _ _
                      · have n63 : c ≠ 63 := e63
                        clear e63
                        by_cases e123 : c = 123
                        · have hq : True := trivial
                          have t46 : ((c.toNat : Int) == 46) = false := byte_f (k := 46) (n := 46) rfl n46
                          have t91 : ((c.toNat : Int) == 91) = false := byte_f (k := 91) (n := 91) rfl n91
                          have t92 : ((c.toNat : Int) == 92) = false := byte_f (k := 92) (n := 92) rfl n92
                          have t94 : ((c.toNat : Int) == 94) = false := byte_f (k := 94) (n := 94) rfl n94
                          have t36 : ((c.toNat : Int) == 36) = false := byte_f (k := 36) (n := 36) rfl n36
                          have t40 : ((c.toNat : Int) == 40) = false := byte_f (k := 40) (n := 40) rfl n40
                          have t41 : ((c.toNat : Int) == 41) = false := byte_f (k := 41) (n := 41) rfl n41
                          have t124 : ((c.toNat : Int) == 124) = false := byte_f (k := 124) (n := 124) rfl n124
                          have t42 : ((c.toNat : Int) == 42) = false := byte_f (k := 42) (n := 42) rfl n42
                          have t43 : ((c.toNat : Int) == 43) = false := byte_f (k := 43) (n := 43) rfl n43
                          have t63 : ((c.toNat : Int) == 63) = false := byte_f (k := 63) (n := 63) rfl n63
                          have t123 : ((c.toNat : Int) == 123) = true := byte_t (k := 123) (n := 123) rfl e123
                          have h9 := interval_tok s ⟨#[123]⟩ ⟨#[125]⟩ (r := r) hs hdr hz (by decide) (w.alloc (.cells #[.int .i64 0, .int .u64 0, .int .u64 0, .int .u64 0, .int .u64 0, .int .i64 0, .int .i64 0] 60)) (hM.below (bA w _))
                          rw [show (⟨#[123]⟩ : ByteArray).size = 1 from rfl, show (⟨#[125]⟩ : ByteArray).data.toList = [125] from rfl] at h9
                          have HE := Lib.hid (show ans = intT 1 [125] r by rw [ea, e123]; simp [extT])
                          obtain ⟨⟨T, n⟩, hT⟩ : ∃ T, T = intT 1 [125] r := ⟨_, rfl⟩
                          rw [← hT] at h9 HE
                          clear hT
                          unfold TokAns Tok.v at h9
                          have H9 := Lib.hid h9
                          clear h9 hl hz hM ea e123 n46 n91 n92 n94 n36 n40 n41 n124 n42 n43 n63 hdr hbk hq
                          go_enter Try.func24, Try.ntmps24
                          go_wp2_with fail
                          go_at_call 31
                          refine H9.out.mono ?_
                          rintro e w1 ⟨rfl, hb1⟩
                          obtain ⟨⟨k0, k1, k2, k3, k4, k5, k6⟩, f0, f1, f2, f3, f4, f5, f6⟩ := box7 hb1 (by simp)
                          have HB := Lib.hid ((bA w _).trans (hb1.mono (by simp)))
                          clear hb1
                          go_wp2_with fail
                          refine bodyPost_ret (v := .tuple #[T.v, .int .i64 (n : Int)]) (by simp [results, Try.results24, go_sem, Tok.v, k0, k1, k2, k3, k4, k5, k6]) rfl ⟨by rw [HE.out], ?_⟩
                          exact below7 HB.out (Nat.le_refl _) _ _ _ _ _ _ _
                        · have n123 : c ≠ 123 := e123
                          clear e123
                          have t46 : ((c.toNat : Int) == 46) = false := byte_f (k := 46) (n := 46) rfl n46
                          have t91 : ((c.toNat : Int) == 91) = false := byte_f (k := 91) (n := 91) rfl n91
                          have t92 : ((c.toNat : Int) == 92) = false := byte_f (k := 92) (n := 92) rfl n92
                          have t94 : ((c.toNat : Int) == 94) = false := byte_f (k := 94) (n := 94) rfl n94
                          have t36 : ((c.toNat : Int) == 36) = false := byte_f (k := 36) (n := 36) rfl n36
                          have t40 : ((c.toNat : Int) == 40) = false := byte_f (k := 40) (n := 40) rfl n40
                          have t41 : ((c.toNat : Int) == 41) = false := byte_f (k := 41) (n := 41) rfl n41
                          have t124 : ((c.toNat : Int) == 124) = false := byte_f (k := 124) (n := 124) rfl n124
                          have t42 : ((c.toNat : Int) == 42) = false := byte_f (k := 42) (n := 42) rfl n42
                          have t43 : ((c.toNat : Int) == 43) = false := byte_f (k := 43) (n := 43) rfl n43
                          have t63 : ((c.toNat : Int) == 63) = false := byte_f (k := 63) (n := 63) rfl n63
                          have t123 : ((c.toNat : Int) == 123) = false := byte_f (k := 123) (n := 123) rfl n123
                          have h9 := itself_is c.toNat (UInt8.toNat_lt _) (w.alloc (.cells #[.int .i64 0, .int .u64 0, .int .u64 0, .int .u64 0, .int .u64 0, .int .i64 0, .int .i64 0] 60))
                          have HE := Lib.hid (show ans = (oneT c.toNat, 1) by rw [ea]; simp [extT, n46, n91, n92, n94, n36, n40, n41, n124, n42, n43, n63, n123])
                          obtain ⟨T, hT⟩ : ∃ T, T = oneT c.toNat := ⟨_, rfl⟩
                          rw [← hT] at h9 HE
                          clear hT
                          unfold TokOne Tok.v at h9
                          have H9 := Lib.hid h9
                          clear h9 hl hz hM ea n46 n91 n92 n94 n36 n40 n41 n124 n42 n43 n63 n123 hdr hbk
                          go_enter Try.func24, Try.ntmps24
                          go_wp2_with fail
                          go_at_call 32
                          refine H9.out.mono ?_
                          rintro e w1 ⟨rfl, hb1⟩
                          obtain ⟨⟨k0, k1, k2, k3, k4, k5, k6⟩, f0, f1, f2, f3, f4, f5, f6⟩ := box7 hb1 (by simp)
                          have HB := Lib.hid ((bA w _).trans (hb1.mono (by simp)))
                          clear hb1
                          go_wp2_with fail
                          refine bodyPost_ret (v := .tuple #[T.v, .int .i64 1]) (by simp [results, Try.results24, go_sem, Tok.v, k0, k1, k2, k3, k4, k5, k6]) rfl ⟨by rw [HE.out]; rfl, ?_⟩
                          exact below7 HB.out (Nat.le_refl _) _ _ _ _ _ _ _
end Go.Proofs.Ytbehbbmhkkidfaa
