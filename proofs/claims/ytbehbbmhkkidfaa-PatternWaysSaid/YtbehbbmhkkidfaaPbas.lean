/-
  The program's tokens: the token that a basic pattern begins with, and first. Conditions: Bracket's answers are told by a function of the text; a text of at most 4096 bytes; the world holds what strings.Index asks.
  The program's tokens: a pattern's text, cut into tokens. Conditions: Bracket's answers are told by a function of the text; a text of at most 4096 bytes; the world holds what strings.Index asks.
-/
import Derived.Test.YtbehbbmhkkidfaaPext
import Derived.Test.YtbehbbmhkkidfaaCbrk
import Derived.RegionTactic
namespace Go.Proofs.Ytbehbbmhkkidfaa
open Go.RowKit Go.Deep

set_option maxRecDepth 100000 in
set_option maxHeartbeats 8000000 in
theorem basic_token {bk : BkF} (hbk : BkIs bk) (s : ByteArray) (ah : Int) {c : UInt8} {r : List UInt8} (hl : s.data.toList = c :: r) (hz : s.size ≤ 4096) (w : World) (hM : MaxAt w) : Calls Try.prog 25 #[.string s, .int .i64 ah] w (TokAns (basT bk ah (c :: r)) w) := by
  have hs : 0 < s.size := by rw [size_cons hl]; omega
  have hsi : (0 : Int) < (s.size : Int) := by omega
  have h0 := at_of hl (i := 0) (c := c) rfl
  have hdr := drop_one hl
  unfold TokAns
  obtain ⟨ans, ea⟩ : ∃ x, x = basT bk ah (c :: r) := ⟨_, rfl⟩
  rw [← ea]
  by_cases e46 : c = 46
  · have hq : True := trivial
    have t46 : ((c.toNat : Int) == 46) = true := byte_t (k := 46) (n := 46) rfl e46
    have h9 := any_byte (w.alloc (.cells #[.int .i64 0, .int .u64 0, .int .u64 0, .int .u64 0, .int .u64 0, .int .i64 0, .int .i64 0] 60))
    have HE := Lib.hid (show ans = (anyT, 1) by rw [ea, e46]; simp [basT])
    obtain ⟨T, hT⟩ : ∃ T, T = anyT := ⟨_, rfl⟩
    rw [← hT] at h9 HE
    clear hT
    unfold TokOne Tok.v at h9
    have H9 := Lib.hid h9
    clear h9 hl hz hM ea e46  hdr hbk hq
    go_enter Try.func25, Try.ntmps25
    go_wp2_with fail
    go_at_call 27
    refine H9.out.mono ?_
    rintro e w1 ⟨rfl, hb1⟩
    obtain ⟨⟨k0, k1, k2, k3, k4, k5, k6⟩, f0, f1, f2, f3, f4, f5, f6⟩ := box7 hb1 (by simp)
    have HB := Lib.hid ((bA w _).trans (hb1.mono (by simp)))
    clear hb1
    go_wp2_with fail
    refine bodyPost_ret (v := .tuple #[T.v, .int .i64 1]) (by simp [results, Try.results25, go_sem, Tok.v, k0, k1, k2, k3, k4, k5, k6]) rfl ⟨by rw [HE.out]; rfl, ?_⟩
    exact below7 HB.out (Nat.le_refl _) _ _ _ _ _ _ _
  · have n46 : c ≠ 46 := e46
    clear e46
    by_cases e91 : c = 91
    · have hq : True := trivial
      have t46 : ((c.toNat : Int) == 46) = false := byte_f (k := 46) (n := 46) rfl n46
      have t91 : ((c.toNat : Int) == 91) = true := byte_t (k := 91) (n := 91) rfl e91
      have h9 := bracket_tok hbk s hl hz (w.alloc (.cells #[.int .i64 0, .int .u64 0, .int .u64 0, .int .u64 0, .int .u64 0, .int .i64 0, .int .i64 0] 60)) (hM.below (bA w _))
      have HE := Lib.hid (show ans = brkT bk r by rw [ea, e91]; simp [basT])
      obtain ⟨⟨T, n⟩, hT⟩ : ∃ T, T = brkT bk r := ⟨_, rfl⟩
      rw [← hT] at h9 HE
      clear hT
      unfold TokAns Tok.v at h9
      have H9 := Lib.hid h9
      clear h9 hl hz hM ea e91 n46 hdr hbk hq
      go_enter Try.func25, Try.ntmps25
      go_wp2_with fail
      go_at_call 28
      refine H9.out.mono ?_
      rintro e w1 ⟨rfl, hb1⟩
      obtain ⟨⟨k0, k1, k2, k3, k4, k5, k6⟩, f0, f1, f2, f3, f4, f5, f6⟩ := box7 hb1 (by simp)
      have HB := Lib.hid ((bA w _).trans (hb1.mono (by simp)))
      clear hb1
      go_wp2_with fail
      refine bodyPost_ret (v := .tuple #[T.v, .int .i64 (n : Int)]) (by simp [results, Try.results25, go_sem, Tok.v, k0, k1, k2, k3, k4, k5, k6]) rfl ⟨by rw [HE.out], ?_⟩
      exact below7 HB.out (Nat.le_refl _) _ _ _ _ _ _ _
    · have n91 : c ≠ 91 := e91
      clear e91
      by_cases e92 : c = 92
      · have hq : True := trivial
        have t46 : ((c.toNat : Int) == 46) = false := byte_f (k := 46) (n := 46) rfl n46
        have t91 : ((c.toNat : Int) == 91) = false := byte_f (k := 91) (n := 91) rfl n91
        have t92 : ((c.toNat : Int) == 92) = true := byte_t (k := 92) (n := 92) rfl e92
        have h9 := basic_escape s (by rw [hl, e92]) hz (w.alloc (.cells #[.int .i64 0, .int .u64 0, .int .u64 0, .int .u64 0, .int .u64 0, .int .i64 0, .int .i64 0] 60)) (hM.below (bA w _))
        have HE := Lib.hid (show ans = basEsc r by rw [ea, e92]; simp [basT])
        obtain ⟨⟨T, n⟩, hT⟩ : ∃ T, T = basEsc r := ⟨_, rfl⟩
        rw [← hT] at h9 HE
        clear hT
        unfold TokAns Tok.v at h9
        have H9 := Lib.hid h9
        clear h9 hl hz hM ea e92 n46 n91 hdr hbk hq
        go_enter Try.func25, Try.ntmps25
        go_wp2_with fail
        go_at_call 33
        refine H9.out.mono ?_
        rintro e w1 ⟨rfl, hb1⟩
        obtain ⟨⟨k0, k1, k2, k3, k4, k5, k6⟩, f0, f1, f2, f3, f4, f5, f6⟩ := box7 hb1 (by simp)
        have HB := Lib.hid ((bA w _).trans (hb1.mono (by simp)))
        clear hb1
        go_wp2_with fail
        refine bodyPost_ret (v := .tuple #[T.v, .int .i64 (n : Int)]) (by simp [results, Try.results25, go_sem, Tok.v, k0, k1, k2, k3, k4, k5, k6]) rfl ⟨by rw [HE.out], ?_⟩
        exact below7 HB.out (Nat.le_refl _) _ _ _ _ _ _ _
      · have n92 : c ≠ 92 := e92
        clear e92
        by_cases e94 : c = 94
        · have hq : True := trivial
          have t46 : ((c.toNat : Int) == 46) = false := byte_f (k := 46) (n := 46) rfl n46
          have t91 : ((c.toNat : Int) == 91) = false := byte_f (k := 91) (n := 91) rfl n91
          have t92 : ((c.toNat : Int) == 92) = false := byte_f (k := 92) (n := 92) rfl n92
          have t94 : ((c.toNat : Int) == 94) = true := byte_t (k := 94) (n := 94) rfl e94
          by_cases ha : ah = 4
          · have ga : (ah == 4) = true := by rw [beq_iff_eq]; exact ha
            have HE := Lib.hid (show ans = (Tok.of 2, 1) by rw [ea, e94]; simp [basT, ha])
            clear hl hz hM ea e94 n46 n91 n92 hdr hbk hq ha
            go_enter Try.func25, Try.ntmps25
            go_wp2_with fail
            refine bodyPost_ret (v := .tuple #[.agg #[.int .i64 2, .int .u64 0, .int .u64 0, .int .u64 0, .int .u64 0, .int .i64 0, .int .i64 0], .int .i64 1]) (by simp [results, Try.results25, go_sem]) rfl ⟨by rw [HE.out]; rfl, ?_⟩
            exact bA w _
          · have ga : (ah == 4) = false := by rw [beq_eq_false_iff_ne]; exact ha
            have h9 := itself_is c.toNat (UInt8.toNat_lt _) (w.alloc (.cells #[.int .i64 0, .int .u64 0, .int .u64 0, .int .u64 0, .int .u64 0, .int .i64 0, .int .i64 0] 60))
            have HE := Lib.hid (show ans = (oneT c.toNat, 1) by rw [ea, e94]; simp [basT, ha])
            obtain ⟨T, hT⟩ : ∃ T, T = oneT c.toNat := ⟨_, rfl⟩
            rw [← hT] at h9 HE
            clear hT
            unfold TokOne Tok.v at h9
            have H9 := Lib.hid h9
            clear h9 hl hz hM ea e94 n46 n91 n92 hdr hbk ha hq
            go_enter Try.func25, Try.ntmps25
            go_wp2_with fail
            go_at_call 32
            refine H9.out.mono ?_
            rintro e w1 ⟨rfl, hb1⟩
            obtain ⟨⟨k0, k1, k2, k3, k4, k5, k6⟩, f0, f1, f2, f3, f4, f5, f6⟩ := box7 hb1 (by simp)
            have HB := Lib.hid ((bA w _).trans (hb1.mono (by simp)))
            clear hb1
            go_wp2_with fail
            refine bodyPost_ret (v := .tuple #[T.v, .int .i64 1]) (by simp [results, Try.results25, go_sem, Tok.v, k0, k1, k2, k3, k4, k5, k6]) rfl ⟨by rw [HE.out]; rfl, ?_⟩
            exact below7 HB.out (Nat.le_refl _) _ _ _ _ _ _ _
        · have n94 : c ≠ 94 := e94
          clear e94
          by_cases e36 : c = 36
          · have hq : True := trivial
            have t46 : ((c.toNat : Int) == 46) = false := byte_f (k := 46) (n := 46) rfl n46
            have t91 : ((c.toNat : Int) == 91) = false := byte_f (k := 91) (n := 91) rfl n91
            have t92 : ((c.toNat : Int) == 92) = false := byte_f (k := 92) (n := 92) rfl n92
            have t94 : ((c.toNat : Int) == 94) = false := byte_f (k := 94) (n := 94) rfl n94
            have t36 : ((c.toNat : Int) == 36) = true := byte_t (k := 36) (n := 36) rfl e36
            have HPX := Lib.hid (has_prefix s ⟨#[36, 92, 41]⟩)
            have px : pre ⟨#[36, 92, 41]⟩ s = [92, 41].isPrefixOf r := by unfold pre; rw [hl, e36]; rfl
            rw [px] at HPX
            have hem : (s.toList == [36]) = r.isEmpty := by
              rw [ByteArray.toList_eq, hl, e36]
              cases r <;> rfl
            cases hr : r.isEmpty with
            | true =>
              rw [hr] at hem
              have hr0 : r = [] := by simpa using hr
              have HE := Lib.hid (show ans = (Tok.of 3, 1) by rw [ea, e36]; simp [basT, hr0])
              clear hl hz hM ea e36 n46 n91 n92 n94 hdr hbk hq hr hr0 px
              go_enter Try.func25, Try.ntmps25
              go_wp2_with fail
              refine bodyPost_ret (v := .tuple #[.agg #[.int .i64 3, .int .u64 0, .int .u64 0, .int .u64 0, .int .u64 0, .int .i64 0, .int .i64 0], .int .i64 1]) (by simp [results, Try.results25, go_sem]) rfl ⟨by rw [HE.out]; rfl, ?_⟩
              exact bA w _
            | false =>
              rw [hr] at hem
              have hr0 : r ≠ [] := by intro h; rw [h] at hr; cases hr
              cases hp : [92, 41].isPrefixOf r with
              | true =>
                rw [hp] at HPX
                have HE := Lib.hid (show ans = (Tok.of 3, 1) by rw [ea, e36]; simp only [basT]; rw [if_neg (by decide), if_neg (by decide), if_neg (by decide), if_neg (fun h => by cases h.1), if_pos ⟨trivial, .inr hp⟩])
                clear hl hz hM ea e36 n46 n91 n92 n94 hdr hbk hq hr hr0 px hp
                go_enter Try.func25, Try.ntmps25
                go_wp2_with fail
                go_at_call 34
                refine (HPX.out _).mono ?_
                rintro e w0 ⟨rfl, rfl⟩
                go_wp2_with fail
                refine bodyPost_ret (v := .tuple #[.agg #[.int .i64 3, .int .u64 0, .int .u64 0, .int .u64 0, .int .u64 0, .int .i64 0, .int .i64 0], .int .i64 1]) (by simp [results, Try.results25, go_sem]) rfl ⟨by rw [HE.out]; rfl, ?_⟩
                exact bA w _
              | false =>
                rw [hp] at HPX
                have h9 := itself_is c.toNat (UInt8.toNat_lt _) (w.alloc (.cells #[.int .i64 0, .int .u64 0, .int .u64 0, .int .u64 0, .int .u64 0, .int .i64 0, .int .i64 0] 60))
                have HE := Lib.hid (show ans = (oneT c.toNat, 1) by rw [ea, e36]; simp only [basT]; rw [if_neg (by decide), if_neg (by decide), if_neg (by decide), if_neg (fun h => by cases h.1), if_neg (fun h => h.2.elim hr0 (fun h => by rw [hp] at h; cases h)), if_neg (fun h => by cases h.1)])
                obtain ⟨T, hT⟩ : ∃ T, T = oneT c.toNat := ⟨_, rfl⟩
                rw [← hT] at h9 HE
                clear hT
                unfold TokOne Tok.v at h9
                have H9 := Lib.hid h9
                clear h9 hl hz hM ea e36 n46 n91 n92 n94 hdr hbk hq hr hr0 px hp
                go_enter Try.func25, Try.ntmps25
                go_wp2_with fail
                go_at_call 34
                refine (HPX.out _).mono ?_
                rintro e w0 ⟨rfl, rfl⟩
                go_wp2_with fail
                go_at_call 32
                refine H9.out.mono ?_
                rintro e w1 ⟨rfl, hb1⟩
                obtain ⟨⟨k0, k1, k2, k3, k4, k5, k6⟩, f0, f1, f2, f3, f4, f5, f6⟩ := box7 hb1 (by simp)
                have HB := Lib.hid ((bA w _).trans (hb1.mono (by simp)))
                clear hb1
                go_wp2_with fail
                refine bodyPost_ret (v := .tuple #[T.v, .int .i64 1]) (by simp [results, Try.results25, go_sem, Tok.v, k0, k1, k2, k3, k4, k5, k6]) rfl ⟨by rw [HE.out]; rfl, ?_⟩
                exact below7 HB.out (Nat.le_refl _) _ _ _ _ _ _ _
          · have n36 : c ≠ 36 := e36
            clear e36
            by_cases e42 : c = 42
            · have hq : True := trivial
              have t46 : ((c.toNat : Int) == 46) = false := byte_f (k := 46) (n := 46) rfl n46
              have t91 : ((c.toNat : Int) == 91) = false := byte_f (k := 91) (n := 91) rfl n91
              have t92 : ((c.toNat : Int) == 92) = false := byte_f (k := 92) (n := 92) rfl n92
              have t94 : ((c.toNat : Int) == 94) = false := byte_f (k := 94) (n := 94) rfl n94
              have t36 : ((c.toNat : Int) == 36) = false := byte_f (k := 36) (n := 36) rfl n36
              have t42 : ((c.toNat : Int) == 42) = true := byte_t (k := 42) (n := 42) rfl e42
              by_cases h4 : ah = 4
              · have g4 : (ah == 4) = true := by rw [beq_iff_eq]; exact h4
                have g4n : (ah != 4) = false := by rw [bne, g4]; rfl
                have h9 := itself_is c.toNat (UInt8.toNat_lt _) (w.alloc (.cells #[.int .i64 0, .int .u64 0, .int .u64 0, .int .u64 0, .int .u64 0, .int .i64 0, .int .i64 0] 60))
                have HE := Lib.hid (show ans = (oneT c.toNat, 1) by rw [ea, e42]; simp [basT, h4])
                obtain ⟨T, hT⟩ : ∃ T, T = oneT c.toNat := ⟨_, rfl⟩
                rw [← hT] at h9 HE
                clear hT
                unfold TokOne Tok.v at h9
                have H9 := Lib.hid h9
                clear h9 hl hz hM ea e42 n46 n91 n92 n94 n36 hdr hbk hq h4
                go_enter Try.func25, Try.ntmps25
                go_wp2_with fail
                go_at_call 32
                refine H9.out.mono ?_
                rintro e w1 ⟨rfl, hb1⟩
                obtain ⟨⟨k0, k1, k2, k3, k4, k5, k6⟩, f0, f1, f2, f3, f4, f5, f6⟩ := box7 hb1 (by simp)
                have HB := Lib.hid ((bA w _).trans (hb1.mono (by simp)))
                clear hb1
                go_wp2_with fail
                refine bodyPost_ret (v := .tuple #[T.v, .int .i64 1]) (by simp [results, Try.results25, go_sem, Tok.v, k0, k1, k2, k3, k4, k5, k6]) rfl ⟨by rw [HE.out]; rfl, ?_⟩
                exact below7 HB.out (Nat.le_refl _) _ _ _ _ _ _ _
              · have g4 : (ah == 4) = false := by rw [beq_eq_false_iff_ne]; exact h4
                have g4n : (ah != 4) = true := by rw [bne, g4]; rfl
                by_cases h2 : ah = 2
                · have g2 : (ah == 2) = true := by rw [beq_iff_eq]; exact h2
                  have g2n : (ah != 2) = false := by rw [bne, g2]; rfl
                  have h9 := itself_is c.toNat (UInt8.toNat_lt _) (w.alloc (.cells #[.int .i64 0, .int .u64 0, .int .u64 0, .int .u64 0, .int .u64 0, .int .i64 0, .int .i64 0] 60))
                  have HE := Lib.hid (show ans = (oneT c.toNat, 1) by rw [ea, e42]; simp [basT, h2])
                  obtain ⟨T, hT⟩ : ∃ T, T = oneT c.toNat := ⟨_, rfl⟩
                  rw [← hT] at h9 HE
                  clear hT
                  unfold TokOne Tok.v at h9
                  have H9 := Lib.hid h9
                  clear h9 hl hz hM ea e42 n46 n91 n92 n94 n36 hdr hbk hq h2 h4
                  go_enter Try.func25, Try.ntmps25
                  go_wp2_with fail
                  go_at_call 32
                  refine H9.out.mono ?_
                  rintro e w1 ⟨rfl, hb1⟩
                  obtain ⟨⟨k0, k1, k2, k3, k4, k5, k6⟩, f0, f1, f2, f3, f4, f5, f6⟩ := box7 hb1 (by simp)
                  have HB := Lib.hid ((bA w _).trans (hb1.mono (by simp)))
                  clear hb1
                  go_wp2_with fail
                  refine bodyPost_ret (v := .tuple #[T.v, .int .i64 1]) (by simp [results, Try.results25, go_sem, Tok.v, k0, k1, k2, k3, k4, k5, k6]) rfl ⟨by rw [HE.out]; rfl, ?_⟩
                  exact below7 HB.out (Nat.le_refl _) _ _ _ _ _ _ _
                · have g2 : (ah == 2) = false := by rw [beq_eq_false_iff_ne]; exact h2
                  have g2n : (ah != 2) = true := by rw [bne, g2]; rfl
                  have h9 := repetition_is 0 (-1) (w.alloc (.cells #[.int .i64 0, .int .u64 0, .int .u64 0, .int .u64 0, .int .u64 0, .int .i64 0, .int .i64 0] 60))
                  have HE := Lib.hid (show ans = (repT 0 (-1), 1) by rw [ea, e42]; simp [basT, h2, h4])
                  obtain ⟨T, hT⟩ : ∃ T, T = repT 0 (-1) := ⟨_, rfl⟩
                  rw [← hT] at h9 HE
                  clear hT
                  unfold TokOne Tok.v at h9
                  have H9 := Lib.hid h9
                  clear h9 hl hz hM ea e42 n46 n91 n92 n94 n36 hdr hbk hq h2 h4
                  go_enter Try.func25, Try.ntmps25
                  go_wp2_with fail
                  go_at_call 30
                  refine H9.out.mono ?_
                  rintro e w1 ⟨rfl, hb1⟩
                  obtain ⟨⟨k0, k1, k2, k3, k4, k5, k6⟩, f0, f1, f2, f3, f4, f5, f6⟩ := box7 hb1 (by simp)
                  have HB := Lib.hid ((bA w _).trans (hb1.mono (by simp)))
                  clear hb1
                  go_wp2_with fail
                  refine bodyPost_ret (v := .tuple #[T.v, .int .i64 1]) (by simp [results, Try.results25, go_sem, Tok.v, k0, k1, k2, k3, k4, k5, k6]) rfl ⟨by rw [HE.out]; rfl, ?_⟩
                  exact below7 HB.out (Nat.le_refl _) _ _ _ _ _ _ _
            · have n42 : c ≠ 42 := e42
              clear e42
              have t46 : ((c.toNat : Int) == 46) = false := byte_f (k := 46) (n := 46) rfl n46
              have t91 : ((c.toNat : Int) == 91) = false := byte_f (k := 91) (n := 91) rfl n91
              have t92 : ((c.toNat : Int) == 92) = false := byte_f (k := 92) (n := 92) rfl n92
              have t94 : ((c.toNat : Int) == 94) = false := byte_f (k := 94) (n := 94) rfl n94
              have t36 : ((c.toNat : Int) == 36) = false := byte_f (k := 36) (n := 36) rfl n36
              have t42 : ((c.toNat : Int) == 42) = false := byte_f (k := 42) (n := 42) rfl n42
              have h9 := itself_is c.toNat (UInt8.toNat_lt _) (w.alloc (.cells #[.int .i64 0, .int .u64 0, .int .u64 0, .int .u64 0, .int .u64 0, .int .i64 0, .int .i64 0] 60))
              have HE := Lib.hid (show ans = (oneT c.toNat, 1) by rw [ea]; simp [basT, n46, n91, n92, n94, n36, n42])
              obtain ⟨T, hT⟩ : ∃ T, T = oneT c.toNat := ⟨_, rfl⟩
              rw [← hT] at h9 HE
              clear hT
              unfold TokOne Tok.v at h9
              have H9 := Lib.hid h9
              clear h9 hl hz hM ea n46 n91 n92 n94 n36 n42 hdr hbk
              go_enter Try.func25, Try.ntmps25
              go_wp2_with fail
              go_at_call 32
              refine H9.out.mono ?_
              rintro e w1 ⟨rfl, hb1⟩
              obtain ⟨⟨k0, k1, k2, k3, k4, k5, k6⟩, f0, f1, f2, f3, f4, f5, f6⟩ := box7 hb1 (by simp)
              have HB := Lib.hid ((bA w _).trans (hb1.mono (by simp)))
              clear hb1
              go_wp2_with fail
              refine bodyPost_ret (v := .tuple #[T.v, .int .i64 1]) (by simp [results, Try.results25, go_sem, Tok.v, k0, k1, k2, k3, k4, k5, k6]) rfl ⟨by rw [HE.out]; rfl, ?_⟩
              exact below7 HB.out (Nat.le_refl _) _ _ _ _ _ _ _
set_option maxRecDepth 100000 in
set_option maxHeartbeats 1000000 in
theorem first_token {bk : BkF} (hbk : BkIs bk) (s : ByteArray) (ext : Bool) (ah : Int) {c : UInt8} {r : List UInt8} (hl : s.data.toList = c :: r) (hz : s.size ≤ 4096) (w : World) (hM : MaxAt w) : Calls Try.prog 20 #[.string s, .bool ext, .int .i64 ah] w (TokAns (firstT bk ext ah (c :: r)) w) := by
  cases ext with
  | true =>
    have h9 := extended_token hbk s hl hz (w.alloc (.cells #[.int .i64 0, .int .u64 0, .int .u64 0, .int .u64 0, .int .u64 0, .int .i64 0, .int .i64 0] 60)) (hM.below (bA w _))
    unfold firstT
    rw [if_pos rfl]
    obtain ⟨⟨T, n⟩, hT⟩ : ∃ T, T = extT bk (c :: r) := ⟨_, rfl⟩
    rw [← hT] at h9 ⊢
    unfold TokAns Tok.v at h9 ⊢
    have H9 := Lib.hid h9
    clear h9 hT hl hz hM hbk
    go_enter Try.func20, Try.ntmps20
    go_wp2_with fail
    go_at_call 24
    refine H9.out.mono ?_
    rintro e w1 ⟨rfl, hb1⟩
    obtain ⟨⟨k0, k1, k2, k3, k4, k5, k6⟩, f0, f1, f2, f3, f4, f5, f6⟩ := box7 hb1 (by simp)
    have HB := Lib.hid ((bA w _).trans (hb1.mono (by simp)))
    clear hb1
    go_wp2_with fail
    refine bodyPost_ret (v := .tuple #[T.v, .int .i64 (n : Int)]) (by simp [results, Try.results20, go_sem, Tok.v, k0, k1, k2, k3, k4, k5, k6]) rfl ⟨rfl, ?_⟩
    exact below7 HB.out (Nat.le_refl _) _ _ _ _ _ _ _
  | false =>
    have h9 := basic_token hbk s ah hl hz (w.alloc (.cells #[.int .i64 0, .int .u64 0, .int .u64 0, .int .u64 0, .int .u64 0, .int .i64 0, .int .i64 0] 60)) (hM.below (bA w _))
    unfold firstT
    rw [if_neg (fun h => by cases h)]
    obtain ⟨⟨T, n⟩, hT⟩ : ∃ T, T = basT bk ah (c :: r) := ⟨_, rfl⟩
    rw [← hT] at h9 ⊢
    unfold TokAns Tok.v at h9 ⊢
    have H9 := Lib.hid h9
    clear h9 hT hl hz hM hbk
    go_enter Try.func20, Try.ntmps20
    go_wp2_with fail
    go_at_call 25
    refine H9.out.mono ?_
    rintro e w1 ⟨rfl, hb1⟩
    obtain ⟨⟨k0, k1, k2, k3, k4, k5, k6⟩, f0, f1, f2, f3, f4, f5, f6⟩ := box7 hb1 (by simp)
    have HB := Lib.hid ((bA w _).trans (hb1.mono (by simp)))
    clear hb1
    go_wp2_with fail
    refine bodyPost_ret (v := .tuple #[T.v, .int .i64 (n : Int)]) (by simp [results, Try.results20, go_sem, Tok.v, k0, k1, k2, k3, k4, k5, k6]) rfl ⟨rfl, ?_⟩
    exact below7 HB.out (Nat.le_refl _) _ _ _ _ _ _ _
end Go.Proofs.Ytbehbbmhkkidfaa

namespace Go.Proofs.Ytbehbbmhkkidfaa
open Go.RowKit Go.Deep

/-! ### How long a token is -/
theorem index_cut (l sep : List UInt8) (h : (Lib.cut l sep).2.2 = true) : (Lib.cut l sep).1.length + sep.length ≤ l.length := by
  unfold Lib.cut at h ⊢
  split at h
  · rename_i h0
    rw [if_pos h0]
    have hi := Lib.index_room l sep h0
    simp only [List.length_take]
    omega
  · cases h
theorem intT_len {m : Nat} {close r : List UInt8} (h : (intT m close r).1.kind ≠ 0) : (intT m close r).2 ≤ m + r.length := by
  unfold intT at h ⊢
  dsimp only at h ⊢
  cases hc : (Lib.cut r close).2.2 with
  | false => rw [hc] at h; simp [Tok.none] at h
  | true =>
    have := index_cut r close hc
    split
    · exact Nat.zero_le _
    · split
      · simp only; omega
      · split
        · simp only; omega
        · split
          · exact Nat.zero_le _
          · simp only; omega
theorem escT_len {them r : List UInt8} (h : (escT them r).1.kind ≠ 0) : (escT them r).2 ≤ 1 + r.length := by
  cases r with
  | nil => exact absurd rfl h
  | cons d q =>
    unfold escT
    dsimp only
    simp only [List.length_cons]
    split
    · simp only; omega
    · split
      · exact Nat.zero_le _
      · simp only; omega
theorem brkT_len {bk : BkF} (hbk : BkIs bk) {r : List UInt8} (hr : r.length ≤ 4096) (h : (brkT bk r).1.kind ≠ 0) : (brkT bk r).2 ≤ 1 + r.length := by
  unfold brkT at h ⊢
  cases hb : bk r with
  | none => rw [hb] at h; exact absurd rfl h
  | some x =>
    obtain ⟨S, n⟩ := x
    have := hbk.len r S n hr hb
    simp only
    omega
theorem pos_one {t : Tok} {n : Nat} {l : List UInt8} {c : UInt8} {r : List UInt8} (hl : l = c :: r) (hn : n = 1) : (t, n).2 ≤ l.length := by rw [hl, hn]; simp
theorem firstT_len {bk : BkF} (hbk : BkIs bk) (ext : Bool) (ah : Int) (c : UInt8) (r : List UInt8) (hr : r.length ≤ 4096) (h : (firstT bk ext ah (c :: r)).1.kind ≠ 0) : (firstT bk ext ah (c :: r)).2 ≤ (c :: r).length := by
  have e1 : (c :: r).length = 1 + r.length := by simp; omega
  cases ext with
  | true =>
    unfold firstT extT at h ⊢
    rw [if_pos rfl] at h ⊢
    rw [e1]
    dsimp only at h ⊢
    by_cases h46 : c = 46
    · rw [if_pos h46]; simp only; omega
    · rw [if_neg h46] at h ⊢
      by_cases h91 : c = 91
      · rw [if_pos h91] at h ⊢; exact brkT_len hbk hr h
      · rw [if_neg h91] at h ⊢
        by_cases h92 : c = 92
        · rw [if_pos h92] at h ⊢; exact escT_len h
        · rw [if_neg h92] at h ⊢
          by_cases h94 : c = 94
          · rw [if_pos h94]; simp only; omega
          · rw [if_neg h94] at h ⊢
            by_cases h36 : c = 36
            · rw [if_pos h36]; simp only; omega
            · rw [if_neg h36] at h ⊢
              by_cases h40 : c = 40
              · rw [if_pos h40]; simp only; omega
              · rw [if_neg h40] at h ⊢
                by_cases h41 : c = 41
                · rw [if_pos h41]; simp only; omega
                · rw [if_neg h41] at h ⊢
                  by_cases h124 : c = 124
                  · rw [if_pos h124]; simp only; omega
                  · rw [if_neg h124] at h ⊢
                    by_cases h42 : c = 42
                    · rw [if_pos h42]; simp only; omega
                    · rw [if_neg h42] at h ⊢
                      by_cases h43 : c = 43
                      · rw [if_pos h43]; simp only; omega
                      · rw [if_neg h43] at h ⊢
                        by_cases h63 : c = 63
                        · rw [if_pos h63]; simp only; omega
                        · rw [if_neg h63] at h ⊢
                          by_cases h123 : c = 123
                          · rw [if_pos h123] at h ⊢; exact intT_len h
                          · rw [if_neg h123] at h ⊢
                            simp only; omega
  | false =>
    unfold firstT basT at h ⊢
    rw [if_neg (fun h => by cases h)] at h ⊢
    rw [e1]
    dsimp only at h ⊢
    by_cases h46 : c = 46
    · rw [if_pos h46]; simp only; omega
    · rw [if_neg h46] at h ⊢
      by_cases h91 : c = 91
      · rw [if_pos h91] at h ⊢; exact brkT_len hbk hr h
      · rw [if_neg h91] at h ⊢
        by_cases h92 : c = 92
        · rw [if_pos h92] at h ⊢
          unfold basEsc at h ⊢
          by_cases p1 : [40].isPrefixOf r = true
          · rw [if_pos p1]
            have := List.IsPrefix.length_le (List.isPrefixOf_iff_prefix.1 p1)
            simp only [List.length_cons, List.length_nil] at this ⊢
            omega
          · rw [if_neg p1] at h ⊢
            by_cases p2 : [41].isPrefixOf r = true
            · rw [if_pos p2]
              have := List.IsPrefix.length_le (List.isPrefixOf_iff_prefix.1 p2)
              simp only [List.length_cons, List.length_nil] at this ⊢
              omega
            · rw [if_neg p2] at h ⊢
              by_cases p3 : [123].isPrefixOf r = true
              · rw [if_pos p3] at h ⊢
                have := List.IsPrefix.length_le (List.isPrefixOf_iff_prefix.1 p3)
                have h2 := intT_len h
                simp only [List.length_cons, List.length_nil, List.length_drop] at this h2 ⊢
                omega
              · rw [if_neg p3] at h ⊢
                exact escT_len h
        · rw [if_neg h92] at h ⊢
          split
          · simp only; omega
          · split
            · simp only; omega
            · split <;> (simp only; omega)
theorem intT_pos {m : Nat} {close r : List UInt8} (hm : 1 ≤ m) (h : (intT m close r).1.kind ≠ 0) : 1 ≤ (intT m close r).2 := by
  unfold intT at h ⊢
  dsimp only at h ⊢
  by_cases h1 : (Lib.cut r close).2.2 = false ∨ (numP (Lib.cut (Lib.cut r close).1 [44]).1).2 = false
  · rw [if_pos h1] at h; exact absurd rfl h
  · rw [if_neg h1] at h ⊢
    split
    · simp only; omega
    · rename_i h2
      rw [if_neg h2] at h
      split
      · simp only; omega
      · rename_i h3
        rw [if_neg h3] at h
        split
        · rename_i h4
          rw [if_pos h4] at h
          exact absurd rfl h
        · simp only; omega
theorem escT_pos {them r : List UInt8} (h : (escT them r).1.kind ≠ 0) : 1 ≤ (escT them r).2 := by
  cases r with
  | nil => exact absurd rfl h
  | cons d q =>
    unfold escT at h ⊢
    dsimp only at h ⊢
    split
    · simp only; omega
    · rename_i h1
      rw [if_neg h1] at h
      split
      · rename_i h2
        rw [if_pos h2] at h
        exact absurd rfl h
      · simp only; omega
theorem brkT_pos {bk : BkF} {r : List UInt8} (h : (brkT bk r).1.kind ≠ 0) : 1 ≤ (brkT bk r).2 := by
  unfold brkT at h ⊢
  cases hb : bk r with
  | none => rw [hb] at h; exact absurd rfl h
  | some x =>
    obtain ⟨S, n⟩ := x
    simp only
    omega
theorem firstT_pos {bk : BkF} (ext : Bool) (ah : Int) (c : UInt8) (r : List UInt8) (h : (firstT bk ext ah (c :: r)).1.kind ≠ 0) : 1 ≤ (firstT bk ext ah (c :: r)).2 := by
  cases ext with
  | true =>
    unfold firstT extT at h ⊢
    rw [if_pos rfl] at h ⊢
    dsimp only at h ⊢
    by_cases h46 : c = 46
    · rw [if_pos h46]; simp only; omega
    · rw [if_neg h46] at h ⊢
      by_cases h91 : c = 91
      · rw [if_pos h91] at h ⊢; exact brkT_pos h
      · rw [if_neg h91] at h ⊢
        by_cases h92 : c = 92
        · rw [if_pos h92] at h ⊢; exact escT_pos h
        · rw [if_neg h92] at h ⊢
          by_cases h94 : c = 94
          · rw [if_pos h94]; simp only; omega
          · rw [if_neg h94] at h ⊢
            by_cases h36 : c = 36
            · rw [if_pos h36]; simp only; omega
            · rw [if_neg h36] at h ⊢
              by_cases h40 : c = 40
              · rw [if_pos h40]; simp only; omega
              · rw [if_neg h40] at h ⊢
                by_cases h41 : c = 41
                · rw [if_pos h41]; simp only; omega
                · rw [if_neg h41] at h ⊢
                  by_cases h124 : c = 124
                  · rw [if_pos h124]; simp only; omega
                  · rw [if_neg h124] at h ⊢
                    by_cases h42 : c = 42
                    · rw [if_pos h42]; simp only; omega
                    · rw [if_neg h42] at h ⊢
                      by_cases h43 : c = 43
                      · rw [if_pos h43]; simp only; omega
                      · rw [if_neg h43] at h ⊢
                        by_cases h63 : c = 63
                        · rw [if_pos h63]; simp only; omega
                        · rw [if_neg h63] at h ⊢
                          by_cases h123 : c = 123
                          · rw [if_pos h123] at h ⊢; exact intT_pos (by omega) h
                          · rw [if_neg h123] at h ⊢
                            simp only; omega
  | false =>
    unfold firstT basT at h ⊢
    rw [if_neg (fun h => by cases h)] at h ⊢
    dsimp only at h ⊢
    by_cases h46 : c = 46
    · rw [if_pos h46]; simp only; omega
    · rw [if_neg h46] at h ⊢
      by_cases h91 : c = 91
      · rw [if_pos h91] at h ⊢; exact brkT_pos h
      · rw [if_neg h91] at h ⊢
        by_cases h92 : c = 92
        · rw [if_pos h92] at h ⊢
          unfold basEsc at h ⊢
          by_cases p1 : [40].isPrefixOf r = true
          · rw [if_pos p1]
            simp only
            omega
          · rw [if_neg p1] at h ⊢
            by_cases p2 : [41].isPrefixOf r = true
            · rw [if_pos p2]
              simp only
              omega
            · rw [if_neg p2] at h ⊢
              by_cases p3 : [123].isPrefixOf r = true
              · rw [if_pos p3] at h ⊢
                exact intT_pos (by omega) h
              · rw [if_neg p3] at h ⊢
                exact escT_pos h
        · rw [if_neg h92] at h ⊢
          split
          · simp only; omega
          · split
            · simp only; omega
            · split <;> (simp only; omega)
end Go.Proofs.Ytbehbbmhkkidfaa
