/-
  Which bytes a name has, as the document's code tells it: some of the bytes. No condition.
-/
import Derived.Test.YtpeidgppcdkjdaaCindef
namespace Go.Proofs.Ytpeidgppcdkjdaa
open Go.RowKit

set_option maxRecDepth 100000 in
set_option maxHeartbeats 4000000 in
theorem in_0 (name : ByteArray) (c : Nat) (ha : 0 ≤ c) (hb : c ≤ 8) (w : World) : Calls Try.prog 76 #[.string name, .int .i64 (c : Int)] w fun e w' => e = .returned (.int .i64 (inS name.toList c)) ∧ w' = w := by
  have y0 : ¬ (65 : Int) ≤ (c : Int) := by omega
  have z0 : decide ((65 : Int) ≤ (c : Int)) = false := decide_eq_false y0
  have y1 : ¬ (97 : Int) ≤ (c : Int) := by omega
  have z1 : decide ((97 : Int) ≤ (c : Int)) = false := decide_eq_false y1
  have y2 : ¬ (48 : Int) ≤ (c : Int) := by omega
  have z2 : decide ((48 : Int) ≤ (c : Int)) = false := decide_eq_false y2
  have y3 : ¬ (9 : Int) ≤ (c : Int) := by omega
  have z3 : decide ((9 : Int) ≤ (c : Int)) = false := decide_eq_false y3
  have y4 : ¬ (33 : Int) ≤ (c : Int) := by omega
  have z4 : decide ((33 : Int) ≤ (c : Int)) = false := decide_eq_false y4
  have y5 : ¬ (32 : Int) ≤ (c : Int) := by omega
  have z5 : decide ((32 : Int) ≤ (c : Int)) = false := decide_eq_false y5
  have x0 : (c : Int) ≤ (90 : Int) := by omega
  have v0 : decide ((c : Int) ≤ (90 : Int)) = true := decide_eq_true x0
  have x1 : (c : Int) ≤ (122 : Int) := by omega
  have v1 : decide ((c : Int) ≤ (122 : Int)) = true := decide_eq_true x1
  have x2 : (c : Int) ≤ (57 : Int) := by omega
  have v2 : decide ((c : Int) ≤ (57 : Int)) = true := decide_eq_true x2
  have x3 : (c : Int) ≤ (13 : Int) := by omega
  have v3 : decide ((c : Int) ≤ (13 : Int)) = true := decide_eq_true x3
  have x4 : (c : Int) ≤ (126 : Int) := by omega
  have v4 : decide ((c : Int) ≤ (126 : Int)) = true := decide_eq_true x4
  have x5 : (c : Int) ≤ (31 : Int) := by omega
  have v5 : decide ((c : Int) ≤ (31 : Int)) = true := decide_eq_true x5
  have x6 : (c : Int) ≤ (70 : Int) := by omega
  have v6 : decide ((c : Int) ≤ (70 : Int)) = true := decide_eq_true x6
  have x7 : (c : Int) ≤ (102 : Int) := by omega
  have v7 : decide ((c : Int) ≤ (102 : Int)) = true := decide_eq_true x7
  have q0 : ((c : Int) == 32) = false := by rw [beq_eq_false_iff_ne]; omega
  have q1 : ((c : Int) == 9) = false := by rw [beq_eq_false_iff_ne]; omega
  have q2 : ((c : Int) == 127) = false := by rw [beq_eq_false_iff_ne]; omega
  obtain ⟨L, hL⟩ : ∃ L, L = name.toList := ⟨_, rfl⟩
  have HI := Lib.hid (show inS name.toList c = inS L c by rw [hL])
  have Halpha := Lib.hid (show inS [97, 108, 112, 104, 97] c = 0 by rw [inS_alpha, if_neg (by omega)])
  have Hdigit := Lib.hid (show inS [100, 105, 103, 105, 116] c = 0 by rw [inS_digit, if_neg (by omega)])
  have Halnum := Lib.hid (show inS [97, 108, 110, 117, 109] c = 0 by rw [inS_alnum, if_neg (by omega)])
  have Hupper := Lib.hid (show inS [117, 112, 112, 101, 114] c = 0 by rw [inS_upper, if_neg (by omega)])
  have Hlower := Lib.hid (show inS [108, 111, 119, 101, 114] c = 0 by rw [inS_lower, if_neg (by omega)])
  have Hspace := Lib.hid (show inS [115, 112, 97, 99, 101] c = 0 by rw [inS_space, if_neg (by omega)])
  have Hblank := Lib.hid (show inS [98, 108, 97, 110, 107] c = 0 by rw [inS_blank, if_neg (by omega)])
  have Hpunct := Lib.hid (show inS [112, 117, 110, 99, 116] c = 0 by rw [inS_punct, if_neg (by omega)])
  have Hprint := Lib.hid (show inS [112, 114, 105, 110, 116] c = 0 by rw [inS_print, if_neg (by omega)])
  have Hgraph := Lib.hid (show inS [103, 114, 97, 112, 104] c = 0 by rw [inS_graph, if_neg (by omega)])
  have Hcntrl := Lib.hid (show inS [99, 110, 116, 114, 108] c = 1 by rw [inS_cntrl, if_pos (by omega)])
  have Hxdigit := Lib.hid (show inS [120, 100, 105, 103, 105, 116] c = 0 by rw [inS_xdigit, if_neg (by omega)])
  clear ha hb
  by_cases k0 : L = [97, 108, 112, 104, 97]
  · rw [k0] at HI
    have e0 : (name.toList == [97, 108, 112, 104, 97]) = true := by rw [← hL, k0]; rfl
    clear hL k0
    go_enter Try.func76, Try.ntmps76
    go_wp2_with fail
    go_ret
    exact ⟨by rw [HI.out, Halpha.out]; rfl, rfl⟩
  · skip
    by_cases k1 : L = [100, 105, 103, 105, 116]
    · rw [k1] at HI
      have e0 : (name.toList == [97, 108, 112, 104, 97]) = false := by rw [← hL, k1]; rfl
      have e1 : (name.toList == [100, 105, 103, 105, 116]) = true := by rw [← hL, k1]; rfl
      clear hL k0 k1
      go_enter Try.func76, Try.ntmps76
      go_wp2_with fail
      go_ret
      exact ⟨by rw [HI.out, Hdigit.out]; rfl, rfl⟩
    · skip
      by_cases k2 : L = [97, 108, 110, 117, 109]
      · rw [k2] at HI
        have e0 : (name.toList == [97, 108, 112, 104, 97]) = false := by rw [← hL, k2]; rfl
        have e1 : (name.toList == [100, 105, 103, 105, 116]) = false := by rw [← hL, k2]; rfl
        have e2 : (name.toList == [97, 108, 110, 117, 109]) = true := by rw [← hL, k2]; rfl
        clear hL k0 k1 k2
        go_enter Try.func76, Try.ntmps76
        go_wp2_with fail
        go_ret
        exact ⟨by rw [HI.out, Halnum.out]; rfl, rfl⟩
      · skip
        by_cases k3 : L = [117, 112, 112, 101, 114]
        · rw [k3] at HI
          have e0 : (name.toList == [97, 108, 112, 104, 97]) = false := by rw [← hL, k3]; rfl
          have e1 : (name.toList == [100, 105, 103, 105, 116]) = false := by rw [← hL, k3]; rfl
          have e2 : (name.toList == [97, 108, 110, 117, 109]) = false := by rw [← hL, k3]; rfl
          have e3 : (name.toList == [117, 112, 112, 101, 114]) = true := by rw [← hL, k3]; rfl
          clear hL k0 k1 k2 k3
          go_enter Try.func76, Try.ntmps76
          go_wp2_with fail
          go_ret
          exact ⟨by rw [HI.out, Hupper.out]; rfl, rfl⟩
        · skip
          by_cases k4 : L = [108, 111, 119, 101, 114]
          · rw [k4] at HI
            have e0 : (name.toList == [97, 108, 112, 104, 97]) = false := by rw [← hL, k4]; rfl
            have e1 : (name.toList == [100, 105, 103, 105, 116]) = false := by rw [← hL, k4]; rfl
            have e2 : (name.toList == [97, 108, 110, 117, 109]) = false := by rw [← hL, k4]; rfl
            have e3 : (name.toList == [117, 112, 112, 101, 114]) = false := by rw [← hL, k4]; rfl
            have e4 : (name.toList == [108, 111, 119, 101, 114]) = true := by rw [← hL, k4]; rfl
            clear hL k0 k1 k2 k3 k4
            go_enter Try.func76, Try.ntmps76
            go_wp2_with fail
            go_ret
            exact ⟨by rw [HI.out, Hlower.out]; rfl, rfl⟩
          · skip
            by_cases k5 : L = [115, 112, 97, 99, 101]
            · rw [k5] at HI
              have e0 : (name.toList == [97, 108, 112, 104, 97]) = false := by rw [← hL, k5]; rfl
              have e1 : (name.toList == [100, 105, 103, 105, 116]) = false := by rw [← hL, k5]; rfl
              have e2 : (name.toList == [97, 108, 110, 117, 109]) = false := by rw [← hL, k5]; rfl
              have e3 : (name.toList == [117, 112, 112, 101, 114]) = false := by rw [← hL, k5]; rfl
              have e4 : (name.toList == [108, 111, 119, 101, 114]) = false := by rw [← hL, k5]; rfl
              have e5 : (name.toList == [115, 112, 97, 99, 101]) = true := by rw [← hL, k5]; rfl
              clear hL k0 k1 k2 k3 k4 k5
              go_enter Try.func76, Try.ntmps76
              go_wp2_with fail
              go_ret
              exact ⟨by rw [HI.out, Hspace.out]; rfl, rfl⟩
            · skip
              by_cases k6 : L = [98, 108, 97, 110, 107]
              · rw [k6] at HI
                have e0 : (name.toList == [97, 108, 112, 104, 97]) = false := by rw [← hL, k6]; rfl
                have e1 : (name.toList == [100, 105, 103, 105, 116]) = false := by rw [← hL, k6]; rfl
                have e2 : (name.toList == [97, 108, 110, 117, 109]) = false := by rw [← hL, k6]; rfl
                have e3 : (name.toList == [117, 112, 112, 101, 114]) = false := by rw [← hL, k6]; rfl
                have e4 : (name.toList == [108, 111, 119, 101, 114]) = false := by rw [← hL, k6]; rfl
                have e5 : (name.toList == [115, 112, 97, 99, 101]) = false := by rw [← hL, k6]; rfl
                have e6 : (name.toList == [98, 108, 97, 110, 107]) = true := by rw [← hL, k6]; rfl
                clear hL k0 k1 k2 k3 k4 k5 k6
                go_enter Try.func76, Try.ntmps76
                go_wp2_with fail
                go_ret
                exact ⟨by rw [HI.out, Hblank.out]; rfl, rfl⟩
              · skip
                by_cases k7 : L = [112, 117, 110, 99, 116]
                · rw [k7] at HI
                  have e0 : (name.toList == [97, 108, 112, 104, 97]) = false := by rw [← hL, k7]; rfl
                  have e1 : (name.toList == [100, 105, 103, 105, 116]) = false := by rw [← hL, k7]; rfl
                  have e2 : (name.toList == [97, 108, 110, 117, 109]) = false := by rw [← hL, k7]; rfl
                  have e3 : (name.toList == [117, 112, 112, 101, 114]) = false := by rw [← hL, k7]; rfl
                  have e4 : (name.toList == [108, 111, 119, 101, 114]) = false := by rw [← hL, k7]; rfl
                  have e5 : (name.toList == [115, 112, 97, 99, 101]) = false := by rw [← hL, k7]; rfl
                  have e6 : (name.toList == [98, 108, 97, 110, 107]) = false := by rw [← hL, k7]; rfl
                  have e7 : (name.toList == [112, 117, 110, 99, 116]) = true := by rw [← hL, k7]; rfl
                  clear hL k0 k1 k2 k3 k4 k5 k6 k7
                  go_enter Try.func76, Try.ntmps76
                  go_wp2_with fail
                  go_ret
                  exact ⟨by rw [HI.out, Hpunct.out]; rfl, rfl⟩
                · skip
                  by_cases k8 : L = [112, 114, 105, 110, 116]
                  · rw [k8] at HI
                    have e0 : (name.toList == [97, 108, 112, 104, 97]) = false := by rw [← hL, k8]; rfl
                    have e1 : (name.toList == [100, 105, 103, 105, 116]) = false := by rw [← hL, k8]; rfl
                    have e2 : (name.toList == [97, 108, 110, 117, 109]) = false := by rw [← hL, k8]; rfl
                    have e3 : (name.toList == [117, 112, 112, 101, 114]) = false := by rw [← hL, k8]; rfl
                    have e4 : (name.toList == [108, 111, 119, 101, 114]) = false := by rw [← hL, k8]; rfl
                    have e5 : (name.toList == [115, 112, 97, 99, 101]) = false := by rw [← hL, k8]; rfl
                    have e6 : (name.toList == [98, 108, 97, 110, 107]) = false := by rw [← hL, k8]; rfl
                    have e7 : (name.toList == [112, 117, 110, 99, 116]) = false := by rw [← hL, k8]; rfl
                    have e8 : (name.toList == [112, 114, 105, 110, 116]) = true := by rw [← hL, k8]; rfl
                    clear hL k0 k1 k2 k3 k4 k5 k6 k7 k8
                    go_enter Try.func76, Try.ntmps76
                    go_wp2_with fail
                    go_ret
                    exact ⟨by rw [HI.out, Hprint.out]; rfl, rfl⟩
                  · skip
                    by_cases k9 : L = [103, 114, 97, 112, 104]
                    · rw [k9] at HI
                      have e0 : (name.toList == [97, 108, 112, 104, 97]) = false := by rw [← hL, k9]; rfl
                      have e1 : (name.toList == [100, 105, 103, 105, 116]) = false := by rw [← hL, k9]; rfl
                      have e2 : (name.toList == [97, 108, 110, 117, 109]) = false := by rw [← hL, k9]; rfl
                      have e3 : (name.toList == [117, 112, 112, 101, 114]) = false := by rw [← hL, k9]; rfl
                      have e4 : (name.toList == [108, 111, 119, 101, 114]) = false := by rw [← hL, k9]; rfl
                      have e5 : (name.toList == [115, 112, 97, 99, 101]) = false := by rw [← hL, k9]; rfl
                      have e6 : (name.toList == [98, 108, 97, 110, 107]) = false := by rw [← hL, k9]; rfl
                      have e7 : (name.toList == [112, 117, 110, 99, 116]) = false := by rw [← hL, k9]; rfl
                      have e8 : (name.toList == [112, 114, 105, 110, 116]) = false := by rw [← hL, k9]; rfl
                      have e9 : (name.toList == [103, 114, 97, 112, 104]) = true := by rw [← hL, k9]; rfl
                      clear hL k0 k1 k2 k3 k4 k5 k6 k7 k8 k9
                      go_enter Try.func76, Try.ntmps76
                      go_wp2_with fail
                      go_ret
                      exact ⟨by rw [HI.out, Hgraph.out]; rfl, rfl⟩
                    · skip
                      by_cases k10 : L = [99, 110, 116, 114, 108]
                      · rw [k10] at HI
                        have e0 : (name.toList == [97, 108, 112, 104, 97]) = false := by rw [← hL, k10]; rfl
                        have e1 : (name.toList == [100, 105, 103, 105, 116]) = false := by rw [← hL, k10]; rfl
                        have e2 : (name.toList == [97, 108, 110, 117, 109]) = false := by rw [← hL, k10]; rfl
                        have e3 : (name.toList == [117, 112, 112, 101, 114]) = false := by rw [← hL, k10]; rfl
                        have e4 : (name.toList == [108, 111, 119, 101, 114]) = false := by rw [← hL, k10]; rfl
                        have e5 : (name.toList == [115, 112, 97, 99, 101]) = false := by rw [← hL, k10]; rfl
                        have e6 : (name.toList == [98, 108, 97, 110, 107]) = false := by rw [← hL, k10]; rfl
                        have e7 : (name.toList == [112, 117, 110, 99, 116]) = false := by rw [← hL, k10]; rfl
                        have e8 : (name.toList == [112, 114, 105, 110, 116]) = false := by rw [← hL, k10]; rfl
                        have e9 : (name.toList == [103, 114, 97, 112, 104]) = false := by rw [← hL, k10]; rfl
                        have e10 : (name.toList == [99, 110, 116, 114, 108]) = true := by rw [← hL, k10]; rfl
                        clear hL k0 k1 k2 k3 k4 k5 k6 k7 k8 k9 k10
                        go_enter Try.func76, Try.ntmps76
                        go_wp2_with fail
                        go_ret
                        exact ⟨by rw [HI.out, Hcntrl.out]; rfl, rfl⟩
                      · skip
                        by_cases k11 : L = [120, 100, 105, 103, 105, 116]
                        · rw [k11] at HI
                          have e0 : (name.toList == [97, 108, 112, 104, 97]) = false := by rw [← hL, k11]; rfl
                          have e1 : (name.toList == [100, 105, 103, 105, 116]) = false := by rw [← hL, k11]; rfl
                          have e2 : (name.toList == [97, 108, 110, 117, 109]) = false := by rw [← hL, k11]; rfl
                          have e3 : (name.toList == [117, 112, 112, 101, 114]) = false := by rw [← hL, k11]; rfl
                          have e4 : (name.toList == [108, 111, 119, 101, 114]) = false := by rw [← hL, k11]; rfl
                          have e5 : (name.toList == [115, 112, 97, 99, 101]) = false := by rw [← hL, k11]; rfl
                          have e6 : (name.toList == [98, 108, 97, 110, 107]) = false := by rw [← hL, k11]; rfl
                          have e7 : (name.toList == [112, 117, 110, 99, 116]) = false := by rw [← hL, k11]; rfl
                          have e8 : (name.toList == [112, 114, 105, 110, 116]) = false := by rw [← hL, k11]; rfl
                          have e9 : (name.toList == [103, 114, 97, 112, 104]) = false := by rw [← hL, k11]; rfl
                          have e10 : (name.toList == [99, 110, 116, 114, 108]) = false := by rw [← hL, k11]; rfl
                          have e11 : (name.toList == [120, 100, 105, 103, 105, 116]) = true := by rw [← hL, k11]; rfl
                          clear hL k0 k1 k2 k3 k4 k5 k6 k7 k8 k9 k10 k11
                          go_enter Try.func76, Try.ntmps76
                          go_wp2_with fail
                          go_ret
                          exact ⟨by rw [HI.out, Hxdigit.out]; rfl, rfl⟩
                        · skip
                          have HN := Lib.hid (show inS L c = -1 by unfold inS; rw [if_neg k0, if_neg k1, if_neg k2, if_neg k3, if_neg k4, if_neg k5, if_neg k6, if_neg k7, if_neg k8, if_neg k9, if_neg k10, if_neg k11])
                          have e0 : (name.toList == [97, 108, 112, 104, 97]) = false := by rw [← hL, beq_eq_false_iff_ne]; exact k0
                          have e1 : (name.toList == [100, 105, 103, 105, 116]) = false := by rw [← hL, beq_eq_false_iff_ne]; exact k1
                          have e2 : (name.toList == [97, 108, 110, 117, 109]) = false := by rw [← hL, beq_eq_false_iff_ne]; exact k2
                          have e3 : (name.toList == [117, 112, 112, 101, 114]) = false := by rw [← hL, beq_eq_false_iff_ne]; exact k3
                          have e4 : (name.toList == [108, 111, 119, 101, 114]) = false := by rw [← hL, beq_eq_false_iff_ne]; exact k4
                          have e5 : (name.toList == [115, 112, 97, 99, 101]) = false := by rw [← hL, beq_eq_false_iff_ne]; exact k5
                          have e6 : (name.toList == [98, 108, 97, 110, 107]) = false := by rw [← hL, beq_eq_false_iff_ne]; exact k6
                          have e7 : (name.toList == [112, 117, 110, 99, 116]) = false := by rw [← hL, beq_eq_false_iff_ne]; exact k7
                          have e8 : (name.toList == [112, 114, 105, 110, 116]) = false := by rw [← hL, beq_eq_false_iff_ne]; exact k8
                          have e9 : (name.toList == [103, 114, 97, 112, 104]) = false := by rw [← hL, beq_eq_false_iff_ne]; exact k9
                          have e10 : (name.toList == [99, 110, 116, 114, 108]) = false := by rw [← hL, beq_eq_false_iff_ne]; exact k10
                          have e11 : (name.toList == [120, 100, 105, 103, 105, 116]) = false := by rw [← hL, beq_eq_false_iff_ne]; exact k11
                          clear hL k0 k1 k2 k3 k4 k5 k6 k7 k8 k9 k10 k11
                          go_enter Try.func76, Try.ntmps76
                          go_wp2_with fail
                          go_ret
                          exact ⟨by rw [HI.out, HN.out]; rfl, rfl⟩
set_option maxRecDepth 100000 in
set_option maxHeartbeats 4000000 in
theorem in_9 (name : ByteArray) (c : Nat) (ha : 9 ≤ c) (hb : c ≤ 9) (w : World) : Calls Try.prog 76 #[.string name, .int .i64 (c : Int)] w fun e w' => e = .returned (.int .i64 (inS name.toList c)) ∧ w' = w := by
  have y0 : ¬ (65 : Int) ≤ (c : Int) := by omega
  have z0 : decide ((65 : Int) ≤ (c : Int)) = false := decide_eq_false y0
  have y1 : ¬ (97 : Int) ≤ (c : Int) := by omega
  have z1 : decide ((97 : Int) ≤ (c : Int)) = false := decide_eq_false y1
  have y2 : ¬ (48 : Int) ≤ (c : Int) := by omega
  have z2 : decide ((48 : Int) ≤ (c : Int)) = false := decide_eq_false y2
  have y3 : (9 : Int) ≤ (c : Int) := by omega
  have z3 : decide ((9 : Int) ≤ (c : Int)) = true := decide_eq_true y3
  have y4 : ¬ (33 : Int) ≤ (c : Int) := by omega
  have z4 : decide ((33 : Int) ≤ (c : Int)) = false := decide_eq_false y4
  have y5 : ¬ (32 : Int) ≤ (c : Int) := by omega
  have z5 : decide ((32 : Int) ≤ (c : Int)) = false := decide_eq_false y5
  have x0 : (c : Int) ≤ (90 : Int) := by omega
  have v0 : decide ((c : Int) ≤ (90 : Int)) = true := decide_eq_true x0
  have x1 : (c : Int) ≤ (122 : Int) := by omega
  have v1 : decide ((c : Int) ≤ (122 : Int)) = true := decide_eq_true x1
  have x2 : (c : Int) ≤ (57 : Int) := by omega
  have v2 : decide ((c : Int) ≤ (57 : Int)) = true := decide_eq_true x2
  have x3 : (c : Int) ≤ (13 : Int) := by omega
  have v3 : decide ((c : Int) ≤ (13 : Int)) = true := decide_eq_true x3
  have x4 : (c : Int) ≤ (126 : Int) := by omega
  have v4 : decide ((c : Int) ≤ (126 : Int)) = true := decide_eq_true x4
  have x5 : (c : Int) ≤ (31 : Int) := by omega
  have v5 : decide ((c : Int) ≤ (31 : Int)) = true := decide_eq_true x5
  have x6 : (c : Int) ≤ (70 : Int) := by omega
  have v6 : decide ((c : Int) ≤ (70 : Int)) = true := decide_eq_true x6
  have x7 : (c : Int) ≤ (102 : Int) := by omega
  have v7 : decide ((c : Int) ≤ (102 : Int)) = true := decide_eq_true x7
  have q0 : ((c : Int) == 32) = false := by rw [beq_eq_false_iff_ne]; omega
  have q1 : ((c : Int) == 9) = true := by rw [beq_iff_eq]; omega
  have q2 : ((c : Int) == 127) = false := by rw [beq_eq_false_iff_ne]; omega
  obtain ⟨L, hL⟩ : ∃ L, L = name.toList := ⟨_, rfl⟩
  have HI := Lib.hid (show inS name.toList c = inS L c by rw [hL])
  have Halpha := Lib.hid (show inS [97, 108, 112, 104, 97] c = 0 by rw [inS_alpha, if_neg (by omega)])
  have Hdigit := Lib.hid (show inS [100, 105, 103, 105, 116] c = 0 by rw [inS_digit, if_neg (by omega)])
  have Halnum := Lib.hid (show inS [97, 108, 110, 117, 109] c = 0 by rw [inS_alnum, if_neg (by omega)])
  have Hupper := Lib.hid (show inS [117, 112, 112, 101, 114] c = 0 by rw [inS_upper, if_neg (by omega)])
  have Hlower := Lib.hid (show inS [108, 111, 119, 101, 114] c = 0 by rw [inS_lower, if_neg (by omega)])
  have Hspace := Lib.hid (show inS [115, 112, 97, 99, 101] c = 1 by rw [inS_space, if_pos (by omega)])
  have Hblank := Lib.hid (show inS [98, 108, 97, 110, 107] c = 1 by rw [inS_blank, if_pos (by omega)])
  have Hpunct := Lib.hid (show inS [112, 117, 110, 99, 116] c = 0 by rw [inS_punct, if_neg (by omega)])
  have Hprint := Lib.hid (show inS [112, 114, 105, 110, 116] c = 0 by rw [inS_print, if_neg (by omega)])
  have Hgraph := Lib.hid (show inS [103, 114, 97, 112, 104] c = 0 by rw [inS_graph, if_neg (by omega)])
  have Hcntrl := Lib.hid (show inS [99, 110, 116, 114, 108] c = 1 by rw [inS_cntrl, if_pos (by omega)])
  have Hxdigit := Lib.hid (show inS [120, 100, 105, 103, 105, 116] c = 0 by rw [inS_xdigit, if_neg (by omega)])
  clear ha hb
  by_cases k0 : L = [97, 108, 112, 104, 97]
  · rw [k0] at HI
    have e0 : (name.toList == [97, 108, 112, 104, 97]) = true := by rw [← hL, k0]; rfl
    clear hL k0
    go_enter Try.func76, Try.ntmps76
    go_wp2_with fail
    go_ret
    exact ⟨by rw [HI.out, Halpha.out]; rfl, rfl⟩
  · skip
    by_cases k1 : L = [100, 105, 103, 105, 116]
    · rw [k1] at HI
      have e0 : (name.toList == [97, 108, 112, 104, 97]) = false := by rw [← hL, k1]; rfl
      have e1 : (name.toList == [100, 105, 103, 105, 116]) = true := by rw [← hL, k1]; rfl
      clear hL k0 k1
      go_enter Try.func76, Try.ntmps76
      go_wp2_with fail
      go_ret
      exact ⟨by rw [HI.out, Hdigit.out]; rfl, rfl⟩
    · skip
      by_cases k2 : L = [97, 108, 110, 117, 109]
      · rw [k2] at HI
        have e0 : (name.toList == [97, 108, 112, 104, 97]) = false := by rw [← hL, k2]; rfl
        have e1 : (name.toList == [100, 105, 103, 105, 116]) = false := by rw [← hL, k2]; rfl
        have e2 : (name.toList == [97, 108, 110, 117, 109]) = true := by rw [← hL, k2]; rfl
        clear hL k0 k1 k2
        go_enter Try.func76, Try.ntmps76
        go_wp2_with fail
        go_ret
        exact ⟨by rw [HI.out, Halnum.out]; rfl, rfl⟩
      · skip
        by_cases k3 : L = [117, 112, 112, 101, 114]
        · rw [k3] at HI
          have e0 : (name.toList == [97, 108, 112, 104, 97]) = false := by rw [← hL, k3]; rfl
          have e1 : (name.toList == [100, 105, 103, 105, 116]) = false := by rw [← hL, k3]; rfl
          have e2 : (name.toList == [97, 108, 110, 117, 109]) = false := by rw [← hL, k3]; rfl
          have e3 : (name.toList == [117, 112, 112, 101, 114]) = true := by rw [← hL, k3]; rfl
          clear hL k0 k1 k2 k3
          go_enter Try.func76, Try.ntmps76
          go_wp2_with fail
          go_ret
          exact ⟨by rw [HI.out, Hupper.out]; rfl, rfl⟩
        · skip
          by_cases k4 : L = [108, 111, 119, 101, 114]
          · rw [k4] at HI
            have e0 : (name.toList == [97, 108, 112, 104, 97]) = false := by rw [← hL, k4]; rfl
            have e1 : (name.toList == [100, 105, 103, 105, 116]) = false := by rw [← hL, k4]; rfl
            have e2 : (name.toList == [97, 108, 110, 117, 109]) = false := by rw [← hL, k4]; rfl
            have e3 : (name.toList == [117, 112, 112, 101, 114]) = false := by rw [← hL, k4]; rfl
            have e4 : (name.toList == [108, 111, 119, 101, 114]) = true := by rw [← hL, k4]; rfl
            clear hL k0 k1 k2 k3 k4
            go_enter Try.func76, Try.ntmps76
            go_wp2_with fail
            go_ret
            exact ⟨by rw [HI.out, Hlower.out]; rfl, rfl⟩
          · skip
            by_cases k5 : L = [115, 112, 97, 99, 101]
            · rw [k5] at HI
              have e0 : (name.toList == [97, 108, 112, 104, 97]) = false := by rw [← hL, k5]; rfl
              have e1 : (name.toList == [100, 105, 103, 105, 116]) = false := by rw [← hL, k5]; rfl
              have e2 : (name.toList == [97, 108, 110, 117, 109]) = false := by rw [← hL, k5]; rfl
              have e3 : (name.toList == [117, 112, 112, 101, 114]) = false := by rw [← hL, k5]; rfl
              have e4 : (name.toList == [108, 111, 119, 101, 114]) = false := by rw [← hL, k5]; rfl
              have e5 : (name.toList == [115, 112, 97, 99, 101]) = true := by rw [← hL, k5]; rfl
              clear hL k0 k1 k2 k3 k4 k5
              go_enter Try.func76, Try.ntmps76
              go_wp2_with fail
              go_ret
              exact ⟨by rw [HI.out, Hspace.out]; rfl, rfl⟩
            · skip
              by_cases k6 : L = [98, 108, 97, 110, 107]
              · rw [k6] at HI
                have e0 : (name.toList == [97, 108, 112, 104, 97]) = false := by rw [← hL, k6]; rfl
                have e1 : (name.toList == [100, 105, 103, 105, 116]) = false := by rw [← hL, k6]; rfl
                have e2 : (name.toList == [97, 108, 110, 117, 109]) = false := by rw [← hL, k6]; rfl
                have e3 : (name.toList == [117, 112, 112, 101, 114]) = false := by rw [← hL, k6]; rfl
                have e4 : (name.toList == [108, 111, 119, 101, 114]) = false := by rw [← hL, k6]; rfl
                have e5 : (name.toList == [115, 112, 97, 99, 101]) = false := by rw [← hL, k6]; rfl
                have e6 : (name.toList == [98, 108, 97, 110, 107]) = true := by rw [← hL, k6]; rfl
                clear hL k0 k1 k2 k3 k4 k5 k6
                go_enter Try.func76, Try.ntmps76
                go_wp2_with fail
                go_ret
                exact ⟨by rw [HI.out, Hblank.out]; rfl, rfl⟩
              · skip
                by_cases k7 : L = [112, 117, 110, 99, 116]
                · rw [k7] at HI
                  have e0 : (name.toList == [97, 108, 112, 104, 97]) = false := by rw [← hL, k7]; rfl
                  have e1 : (name.toList == [100, 105, 103, 105, 116]) = false := by rw [← hL, k7]; rfl
                  have e2 : (name.toList == [97, 108, 110, 117, 109]) = false := by rw [← hL, k7]; rfl
                  have e3 : (name.toList == [117, 112, 112, 101, 114]) = false := by rw [← hL, k7]; rfl
                  have e4 : (name.toList == [108, 111, 119, 101, 114]) = false := by rw [← hL, k7]; rfl
                  have e5 : (name.toList == [115, 112, 97, 99, 101]) = false := by rw [← hL, k7]; rfl
                  have e6 : (name.toList == [98, 108, 97, 110, 107]) = false := by rw [← hL, k7]; rfl
                  have e7 : (name.toList == [112, 117, 110, 99, 116]) = true := by rw [← hL, k7]; rfl
                  clear hL k0 k1 k2 k3 k4 k5 k6 k7
                  go_enter Try.func76, Try.ntmps76
                  go_wp2_with fail
                  go_ret
                  exact ⟨by rw [HI.out, Hpunct.out]; rfl, rfl⟩
                · skip
                  by_cases k8 : L = [112, 114, 105, 110, 116]
                  · rw [k8] at HI
                    have e0 : (name.toList == [97, 108, 112, 104, 97]) = false := by rw [← hL, k8]; rfl
                    have e1 : (name.toList == [100, 105, 103, 105, 116]) = false := by rw [← hL, k8]; rfl
                    have e2 : (name.toList == [97, 108, 110, 117, 109]) = false := by rw [← hL, k8]; rfl
                    have e3 : (name.toList == [117, 112, 112, 101, 114]) = false := by rw [← hL, k8]; rfl
                    have e4 : (name.toList == [108, 111, 119, 101, 114]) = false := by rw [← hL, k8]; rfl
                    have e5 : (name.toList == [115, 112, 97, 99, 101]) = false := by rw [← hL, k8]; rfl
                    have e6 : (name.toList == [98, 108, 97, 110, 107]) = false := by rw [← hL, k8]; rfl
                    have e7 : (name.toList == [112, 117, 110, 99, 116]) = false := by rw [← hL, k8]; rfl
                    have e8 : (name.toList == [112, 114, 105, 110, 116]) = true := by rw [← hL, k8]; rfl
                    clear hL k0 k1 k2 k3 k4 k5 k6 k7 k8
                    go_enter Try.func76, Try.ntmps76
                    go_wp2_with fail
                    go_ret
                    exact ⟨by rw [HI.out, Hprint.out]; rfl, rfl⟩
                  · skip
                    by_cases k9 : L = [103, 114, 97, 112, 104]
                    · rw [k9] at HI
                      have e0 : (name.toList == [97, 108, 112, 104, 97]) = false := by rw [← hL, k9]; rfl
                      have e1 : (name.toList == [100, 105, 103, 105, 116]) = false := by rw [← hL, k9]; rfl
                      have e2 : (name.toList == [97, 108, 110, 117, 109]) = false := by rw [← hL, k9]; rfl
                      have e3 : (name.toList == [117, 112, 112, 101, 114]) = false := by rw [← hL, k9]; rfl
                      have e4 : (name.toList == [108, 111, 119, 101, 114]) = false := by rw [← hL, k9]; rfl
                      have e5 : (name.toList == [115, 112, 97, 99, 101]) = false := by rw [← hL, k9]; rfl
                      have e6 : (name.toList == [98, 108, 97, 110, 107]) = false := by rw [← hL, k9]; rfl
                      have e7 : (name.toList == [112, 117, 110, 99, 116]) = false := by rw [← hL, k9]; rfl
                      have e8 : (name.toList == [112, 114, 105, 110, 116]) = false := by rw [← hL, k9]; rfl
                      have e9 : (name.toList == [103, 114, 97, 112, 104]) = true := by rw [← hL, k9]; rfl
                      clear hL k0 k1 k2 k3 k4 k5 k6 k7 k8 k9
                      go_enter Try.func76, Try.ntmps76
                      go_wp2_with fail
                      go_ret
                      exact ⟨by rw [HI.out, Hgraph.out]; rfl, rfl⟩
                    · skip
                      by_cases k10 : L = [99, 110, 116, 114, 108]
                      · rw [k10] at HI
                        have e0 : (name.toList == [97, 108, 112, 104, 97]) = false := by rw [← hL, k10]; rfl
                        have e1 : (name.toList == [100, 105, 103, 105, 116]) = false := by rw [← hL, k10]; rfl
                        have e2 : (name.toList == [97, 108, 110, 117, 109]) = false := by rw [← hL, k10]; rfl
                        have e3 : (name.toList == [117, 112, 112, 101, 114]) = false := by rw [← hL, k10]; rfl
                        have e4 : (name.toList == [108, 111, 119, 101, 114]) = false := by rw [← hL, k10]; rfl
                        have e5 : (name.toList == [115, 112, 97, 99, 101]) = false := by rw [← hL, k10]; rfl
                        have e6 : (name.toList == [98, 108, 97, 110, 107]) = false := by rw [← hL, k10]; rfl
                        have e7 : (name.toList == [112, 117, 110, 99, 116]) = false := by rw [← hL, k10]; rfl
                        have e8 : (name.toList == [112, 114, 105, 110, 116]) = false := by rw [← hL, k10]; rfl
                        have e9 : (name.toList == [103, 114, 97, 112, 104]) = false := by rw [← hL, k10]; rfl
                        have e10 : (name.toList == [99, 110, 116, 114, 108]) = true := by rw [← hL, k10]; rfl
                        clear hL k0 k1 k2 k3 k4 k5 k6 k7 k8 k9 k10
                        go_enter Try.func76, Try.ntmps76
                        go_wp2_with fail
                        go_ret
                        exact ⟨by rw [HI.out, Hcntrl.out]; rfl, rfl⟩
                      · skip
                        by_cases k11 : L = [120, 100, 105, 103, 105, 116]
                        · rw [k11] at HI
                          have e0 : (name.toList == [97, 108, 112, 104, 97]) = false := by rw [← hL, k11]; rfl
                          have e1 : (name.toList == [100, 105, 103, 105, 116]) = false := by rw [← hL, k11]; rfl
                          have e2 : (name.toList == [97, 108, 110, 117, 109]) = false := by rw [← hL, k11]; rfl
                          have e3 : (name.toList == [117, 112, 112, 101, 114]) = false := by rw [← hL, k11]; rfl
                          have e4 : (name.toList == [108, 111, 119, 101, 114]) = false := by rw [← hL, k11]; rfl
                          have e5 : (name.toList == [115, 112, 97, 99, 101]) = false := by rw [← hL, k11]; rfl
                          have e6 : (name.toList == [98, 108, 97, 110, 107]) = false := by rw [← hL, k11]; rfl
                          have e7 : (name.toList == [112, 117, 110, 99, 116]) = false := by rw [← hL, k11]; rfl
                          have e8 : (name.toList == [112, 114, 105, 110, 116]) = false := by rw [← hL, k11]; rfl
                          have e9 : (name.toList == [103, 114, 97, 112, 104]) = false := by rw [← hL, k11]; rfl
                          have e10 : (name.toList == [99, 110, 116, 114, 108]) = false := by rw [← hL, k11]; rfl
                          have e11 : (name.toList == [120, 100, 105, 103, 105, 116]) = true := by rw [← hL, k11]; rfl
                          clear hL k0 k1 k2 k3 k4 k5 k6 k7 k8 k9 k10 k11
                          go_enter Try.func76, Try.ntmps76
                          go_wp2_with fail
                          go_ret
                          exact ⟨by rw [HI.out, Hxdigit.out]; rfl, rfl⟩
                        · skip
                          have HN := Lib.hid (show inS L c = -1 by unfold inS; rw [if_neg k0, if_neg k1, if_neg k2, if_neg k3, if_neg k4, if_neg k5, if_neg k6, if_neg k7, if_neg k8, if_neg k9, if_neg k10, if_neg k11])
                          have e0 : (name.toList == [97, 108, 112, 104, 97]) = false := by rw [← hL, beq_eq_false_iff_ne]; exact k0
                          have e1 : (name.toList == [100, 105, 103, 105, 116]) = false := by rw [← hL, beq_eq_false_iff_ne]; exact k1
                          have e2 : (name.toList == [97, 108, 110, 117, 109]) = false := by rw [← hL, beq_eq_false_iff_ne]; exact k2
                          have e3 : (name.toList == [117, 112, 112, 101, 114]) = false := by rw [← hL, beq_eq_false_iff_ne]; exact k3
                          have e4 : (name.toList == [108, 111, 119, 101, 114]) = false := by rw [← hL, beq_eq_false_iff_ne]; exact k4
                          have e5 : (name.toList == [115, 112, 97, 99, 101]) = false := by rw [← hL, beq_eq_false_iff_ne]; exact k5
                          have e6 : (name.toList == [98, 108, 97, 110, 107]) = false := by rw [← hL, beq_eq_false_iff_ne]; exact k6
                          have e7 : (name.toList == [112, 117, 110, 99, 116]) = false := by rw [← hL, beq_eq_false_iff_ne]; exact k7
                          have e8 : (name.toList == [112, 114, 105, 110, 116]) = false := by rw [← hL, beq_eq_false_iff_ne]; exact k8
                          have e9 : (name.toList == [103, 114, 97, 112, 104]) = false := by rw [← hL, beq_eq_false_iff_ne]; exact k9
                          have e10 : (name.toList == [99, 110, 116, 114, 108]) = false := by rw [← hL, beq_eq_false_iff_ne]; exact k10
                          have e11 : (name.toList == [120, 100, 105, 103, 105, 116]) = false := by rw [← hL, beq_eq_false_iff_ne]; exact k11
                          clear hL k0 k1 k2 k3 k4 k5 k6 k7 k8 k9 k10 k11
                          go_enter Try.func76, Try.ntmps76
                          go_wp2_with fail
                          go_ret
                          exact ⟨by rw [HI.out, HN.out]; rfl, rfl⟩
set_option maxRecDepth 100000 in
set_option maxHeartbeats 4000000 in
theorem in_10 (name : ByteArray) (c : Nat) (ha : 10 ≤ c) (hb : c ≤ 13) (w : World) : Calls Try.prog 76 #[.string name, .int .i64 (c : Int)] w fun e w' => e = .returned (.int .i64 (inS name.toList c)) ∧ w' = w := by
  have y0 : ¬ (65 : Int) ≤ (c : Int) := by omega
  have z0 : decide ((65 : Int) ≤ (c : Int)) = false := decide_eq_false y0
  have y1 : ¬ (97 : Int) ≤ (c : Int) := by omega
  have z1 : decide ((97 : Int) ≤ (c : Int)) = false := decide_eq_false y1
  have y2 : ¬ (48 : Int) ≤ (c : Int) := by omega
  have z2 : decide ((48 : Int) ≤ (c : Int)) = false := decide_eq_false y2
  have y3 : (9 : Int) ≤ (c : Int) := by omega
  have z3 : decide ((9 : Int) ≤ (c : Int)) = true := decide_eq_true y3
  have y4 : ¬ (33 : Int) ≤ (c : Int) := by omega
  have z4 : decide ((33 : Int) ≤ (c : Int)) = false := decide_eq_false y4
  have y5 : ¬ (32 : Int) ≤ (c : Int) := by omega
  have z5 : decide ((32 : Int) ≤ (c : Int)) = false := decide_eq_false y5
  have x0 : (c : Int) ≤ (90 : Int) := by omega
  have v0 : decide ((c : Int) ≤ (90 : Int)) = true := decide_eq_true x0
  have x1 : (c : Int) ≤ (122 : Int) := by omega
  have v1 : decide ((c : Int) ≤ (122 : Int)) = true := decide_eq_true x1
  have x2 : (c : Int) ≤ (57 : Int) := by omega
  have v2 : decide ((c : Int) ≤ (57 : Int)) = true := decide_eq_true x2
  have x3 : (c : Int) ≤ (13 : Int) := by omega
  have v3 : decide ((c : Int) ≤ (13 : Int)) = true := decide_eq_true x3
  have x4 : (c : Int) ≤ (126 : Int) := by omega
  have v4 : decide ((c : Int) ≤ (126 : Int)) = true := decide_eq_true x4
  have x5 : (c : Int) ≤ (31 : Int) := by omega
  have v5 : decide ((c : Int) ≤ (31 : Int)) = true := decide_eq_true x5
  have x6 : (c : Int) ≤ (70 : Int) := by omega
  have v6 : decide ((c : Int) ≤ (70 : Int)) = true := decide_eq_true x6
  have x7 : (c : Int) ≤ (102 : Int) := by omega
  have v7 : decide ((c : Int) ≤ (102 : Int)) = true := decide_eq_true x7
  have q0 : ((c : Int) == 32) = false := by rw [beq_eq_false_iff_ne]; omega
  have q1 : ((c : Int) == 9) = false := by rw [beq_eq_false_iff_ne]; omega
  have q2 : ((c : Int) == 127) = false := by rw [beq_eq_false_iff_ne]; omega
  obtain ⟨L, hL⟩ : ∃ L, L = name.toList := ⟨_, rfl⟩
  have HI := Lib.hid (show inS name.toList c = inS L c by rw [hL])
  have Halpha := Lib.hid (show inS [97, 108, 112, 104, 97] c = 0 by rw [inS_alpha, if_neg (by omega)])
  have Hdigit := Lib.hid (show inS [100, 105, 103, 105, 116] c = 0 by rw [inS_digit, if_neg (by omega)])
  have Halnum := Lib.hid (show inS [97, 108, 110, 117, 109] c = 0 by rw [inS_alnum, if_neg (by omega)])
  have Hupper := Lib.hid (show inS [117, 112, 112, 101, 114] c = 0 by rw [inS_upper, if_neg (by omega)])
  have Hlower := Lib.hid (show inS [108, 111, 119, 101, 114] c = 0 by rw [inS_lower, if_neg (by omega)])
  have Hspace := Lib.hid (show inS [115, 112, 97, 99, 101] c = 1 by rw [inS_space, if_pos (by omega)])
  have Hblank := Lib.hid (show inS [98, 108, 97, 110, 107] c = 0 by rw [inS_blank, if_neg (by omega)])
  have Hpunct := Lib.hid (show inS [112, 117, 110, 99, 116] c = 0 by rw [inS_punct, if_neg (by omega)])
  have Hprint := Lib.hid (show inS [112, 114, 105, 110, 116] c = 0 by rw [inS_print, if_neg (by omega)])
  have Hgraph := Lib.hid (show inS [103, 114, 97, 112, 104] c = 0 by rw [inS_graph, if_neg (by omega)])
  have Hcntrl := Lib.hid (show inS [99, 110, 116, 114, 108] c = 1 by rw [inS_cntrl, if_pos (by omega)])
  have Hxdigit := Lib.hid (show inS [120, 100, 105, 103, 105, 116] c = 0 by rw [inS_xdigit, if_neg (by omega)])
  clear ha hb
  by_cases k0 : L = [97, 108, 112, 104, 97]
  · rw [k0] at HI
    have e0 : (name.toList == [97, 108, 112, 104, 97]) = true := by rw [← hL, k0]; rfl
    clear hL k0
    go_enter Try.func76, Try.ntmps76
    go_wp2_with fail
    go_ret
    exact ⟨by rw [HI.out, Halpha.out]; rfl, rfl⟩
  · skip
    by_cases k1 : L = [100, 105, 103, 105, 116]
    · rw [k1] at HI
      have e0 : (name.toList == [97, 108, 112, 104, 97]) = false := by rw [← hL, k1]; rfl
      have e1 : (name.toList == [100, 105, 103, 105, 116]) = true := by rw [← hL, k1]; rfl
      clear hL k0 k1
      go_enter Try.func76, Try.ntmps76
      go_wp2_with fail
      go_ret
      exact ⟨by rw [HI.out, Hdigit.out]; rfl, rfl⟩
    · skip
      by_cases k2 : L = [97, 108, 110, 117, 109]
      · rw [k2] at HI
        have e0 : (name.toList == [97, 108, 112, 104, 97]) = false := by rw [← hL, k2]; rfl
        have e1 : (name.toList == [100, 105, 103, 105, 116]) = false := by rw [← hL, k2]; rfl
        have e2 : (name.toList == [97, 108, 110, 117, 109]) = true := by rw [← hL, k2]; rfl
        clear hL k0 k1 k2
        go_enter Try.func76, Try.ntmps76
        go_wp2_with fail
        go_ret
        exact ⟨by rw [HI.out, Halnum.out]; rfl, rfl⟩
      · skip
        by_cases k3 : L = [117, 112, 112, 101, 114]
        · rw [k3] at HI
          have e0 : (name.toList == [97, 108, 112, 104, 97]) = false := by rw [← hL, k3]; rfl
          have e1 : (name.toList == [100, 105, 103, 105, 116]) = false := by rw [← hL, k3]; rfl
          have e2 : (name.toList == [97, 108, 110, 117, 109]) = false := by rw [← hL, k3]; rfl
          have e3 : (name.toList == [117, 112, 112, 101, 114]) = true := by rw [← hL, k3]; rfl
          clear hL k0 k1 k2 k3
          go_enter Try.func76, Try.ntmps76
          go_wp2_with fail
          go_ret
          exact ⟨by rw [HI.out, Hupper.out]; rfl, rfl⟩
        · skip
          by_cases k4 : L = [108, 111, 119, 101, 114]
          · rw [k4] at HI
            have e0 : (name.toList == [97, 108, 112, 104, 97]) = false := by rw [← hL, k4]; rfl
            have e1 : (name.toList == [100, 105, 103, 105, 116]) = false := by rw [← hL, k4]; rfl
            have e2 : (name.toList == [97, 108, 110, 117, 109]) = false := by rw [← hL, k4]; rfl
            have e3 : (name.toList == [117, 112, 112, 101, 114]) = false := by rw [← hL, k4]; rfl
            have e4 : (name.toList == [108, 111, 119, 101, 114]) = true := by rw [← hL, k4]; rfl
            clear hL k0 k1 k2 k3 k4
            go_enter Try.func76, Try.ntmps76
            go_wp2_with fail
            go_ret
            exact ⟨by rw [HI.out, Hlower.out]; rfl, rfl⟩
          · skip
            by_cases k5 : L = [115, 112, 97, 99, 101]
            · rw [k5] at HI
              have e0 : (name.toList == [97, 108, 112, 104, 97]) = false := by rw [← hL, k5]; rfl
              have e1 : (name.toList == [100, 105, 103, 105, 116]) = false := by rw [← hL, k5]; rfl
              have e2 : (name.toList == [97, 108, 110, 117, 109]) = false := by rw [← hL, k5]; rfl
              have e3 : (name.toList == [117, 112, 112, 101, 114]) = false := by rw [← hL, k5]; rfl
              have e4 : (name.toList == [108, 111, 119, 101, 114]) = false := by rw [← hL, k5]; rfl
              have e5 : (name.toList == [115, 112, 97, 99, 101]) = true := by rw [← hL, k5]; rfl
              clear hL k0 k1 k2 k3 k4 k5
              go_enter Try.func76, Try.ntmps76
              go_wp2_with fail
              go_ret
              exact ⟨by rw [HI.out, Hspace.out]; rfl, rfl⟩
            · skip
              by_cases k6 : L = [98, 108, 97, 110, 107]
              · rw [k6] at HI
                have e0 : (name.toList == [97, 108, 112, 104, 97]) = false := by rw [← hL, k6]; rfl
                have e1 : (name.toList == [100, 105, 103, 105, 116]) = false := by rw [← hL, k6]; rfl
                have e2 : (name.toList == [97, 108, 110, 117, 109]) = false := by rw [← hL, k6]; rfl
                have e3 : (name.toList == [117, 112, 112, 101, 114]) = false := by rw [← hL, k6]; rfl
                have e4 : (name.toList == [108, 111, 119, 101, 114]) = false := by rw [← hL, k6]; rfl
                have e5 : (name.toList == [115, 112, 97, 99, 101]) = false := by rw [← hL, k6]; rfl
                have e6 : (name.toList == [98, 108, 97, 110, 107]) = true := by rw [← hL, k6]; rfl
                clear hL k0 k1 k2 k3 k4 k5 k6
                go_enter Try.func76, Try.ntmps76
                go_wp2_with fail
                go_ret
                exact ⟨by rw [HI.out, Hblank.out]; rfl, rfl⟩
              · skip
                by_cases k7 : L = [112, 117, 110, 99, 116]
                · rw [k7] at HI
                  have e0 : (name.toList == [97, 108, 112, 104, 97]) = false := by rw [← hL, k7]; rfl
                  have e1 : (name.toList == [100, 105, 103, 105, 116]) = false := by rw [← hL, k7]; rfl
                  have e2 : (name.toList == [97, 108, 110, 117, 109]) = false := by rw [← hL, k7]; rfl
                  have e3 : (name.toList == [117, 112, 112, 101, 114]) = false := by rw [← hL, k7]; rfl
                  have e4 : (name.toList == [108, 111, 119, 101, 114]) = false := by rw [← hL, k7]; rfl
                  have e5 : (name.toList == [115, 112, 97, 99, 101]) = false := by rw [← hL, k7]; rfl
                  have e6 : (name.toList == [98, 108, 97, 110, 107]) = false := by rw [← hL, k7]; rfl
                  have e7 : (name.toList == [112, 117, 110, 99, 116]) = true := by rw [← hL, k7]; rfl
                  clear hL k0 k1 k2 k3 k4 k5 k6 k7
                  go_enter Try.func76, Try.ntmps76
                  go_wp2_with fail
                  go_ret
                  exact ⟨by rw [HI.out, Hpunct.out]; rfl, rfl⟩
                · skip
                  by_cases k8 : L = [112, 114, 105, 110, 116]
                  · rw [k8] at HI
                    have e0 : (name.toList == [97, 108, 112, 104, 97]) = false := by rw [← hL, k8]; rfl
                    have e1 : (name.toList == [100, 105, 103, 105, 116]) = false := by rw [← hL, k8]; rfl
                    have e2 : (name.toList == [97, 108, 110, 117, 109]) = false := by rw [← hL, k8]; rfl
                    have e3 : (name.toList == [117, 112, 112, 101, 114]) = false := by rw [← hL, k8]; rfl
                    have e4 : (name.toList == [108, 111, 119, 101, 114]) = false := by rw [← hL, k8]; rfl
                    have e5 : (name.toList == [115, 112, 97, 99, 101]) = false := by rw [← hL, k8]; rfl
                    have e6 : (name.toList == [98, 108, 97, 110, 107]) = false := by rw [← hL, k8]; rfl
                    have e7 : (name.toList == [112, 117, 110, 99, 116]) = false := by rw [← hL, k8]; rfl
                    have e8 : (name.toList == [112, 114, 105, 110, 116]) = true := by rw [← hL, k8]; rfl
                    clear hL k0 k1 k2 k3 k4 k5 k6 k7 k8
                    go_enter Try.func76, Try.ntmps76
                    go_wp2_with fail
                    go_ret
                    exact ⟨by rw [HI.out, Hprint.out]; rfl, rfl⟩
                  · skip
                    by_cases k9 : L = [103, 114, 97, 112, 104]
                    · rw [k9] at HI
                      have e0 : (name.toList == [97, 108, 112, 104, 97]) = false := by rw [← hL, k9]; rfl
                      have e1 : (name.toList == [100, 105, 103, 105, 116]) = false := by rw [← hL, k9]; rfl
                      have e2 : (name.toList == [97, 108, 110, 117, 109]) = false := by rw [← hL, k9]; rfl
                      have e3 : (name.toList == [117, 112, 112, 101, 114]) = false := by rw [← hL, k9]; rfl
                      have e4 : (name.toList == [108, 111, 119, 101, 114]) = false := by rw [← hL, k9]; rfl
                      have e5 : (name.toList == [115, 112, 97, 99, 101]) = false := by rw [← hL, k9]; rfl
                      have e6 : (name.toList == [98, 108, 97, 110, 107]) = false := by rw [← hL, k9]; rfl
                      have e7 : (name.toList == [112, 117, 110, 99, 116]) = false := by rw [← hL, k9]; rfl
                      have e8 : (name.toList == [112, 114, 105, 110, 116]) = false := by rw [← hL, k9]; rfl
                      have e9 : (name.toList == [103, 114, 97, 112, 104]) = true := by rw [← hL, k9]; rfl
                      clear hL k0 k1 k2 k3 k4 k5 k6 k7 k8 k9
                      go_enter Try.func76, Try.ntmps76
                      go_wp2_with fail
                      go_ret
                      exact ⟨by rw [HI.out, Hgraph.out]; rfl, rfl⟩
                    · skip
                      by_cases k10 : L = [99, 110, 116, 114, 108]
                      · rw [k10] at HI
                        have e0 : (name.toList == [97, 108, 112, 104, 97]) = false := by rw [← hL, k10]; rfl
                        have e1 : (name.toList == [100, 105, 103, 105, 116]) = false := by rw [← hL, k10]; rfl
                        have e2 : (name.toList == [97, 108, 110, 117, 109]) = false := by rw [← hL, k10]; rfl
                        have e3 : (name.toList == [117, 112, 112, 101, 114]) = false := by rw [← hL, k10]; rfl
                        have e4 : (name.toList == [108, 111, 119, 101, 114]) = false := by rw [← hL, k10]; rfl
                        have e5 : (name.toList == [115, 112, 97, 99, 101]) = false := by rw [← hL, k10]; rfl
                        have e6 : (name.toList == [98, 108, 97, 110, 107]) = false := by rw [← hL, k10]; rfl
                        have e7 : (name.toList == [112, 117, 110, 99, 116]) = false := by rw [← hL, k10]; rfl
                        have e8 : (name.toList == [112, 114, 105, 110, 116]) = false := by rw [← hL, k10]; rfl
                        have e9 : (name.toList == [103, 114, 97, 112, 104]) = false := by rw [← hL, k10]; rfl
                        have e10 : (name.toList == [99, 110, 116, 114, 108]) = true := by rw [← hL, k10]; rfl
                        clear hL k0 k1 k2 k3 k4 k5 k6 k7 k8 k9 k10
                        go_enter Try.func76, Try.ntmps76
                        go_wp2_with fail
                        go_ret
                        exact ⟨by rw [HI.out, Hcntrl.out]; rfl, rfl⟩
                      · skip
                        by_cases k11 : L = [120, 100, 105, 103, 105, 116]
                        · rw [k11] at HI
                          have e0 : (name.toList == [97, 108, 112, 104, 97]) = false := by rw [← hL, k11]; rfl
                          have e1 : (name.toList == [100, 105, 103, 105, 116]) = false := by rw [← hL, k11]; rfl
                          have e2 : (name.toList == [97, 108, 110, 117, 109]) = false := by rw [← hL, k11]; rfl
                          have e3 : (name.toList == [117, 112, 112, 101, 114]) = false := by rw [← hL, k11]; rfl
                          have e4 : (name.toList == [108, 111, 119, 101, 114]) = false := by rw [← hL, k11]; rfl
                          have e5 : (name.toList == [115, 112, 97, 99, 101]) = false := by rw [← hL, k11]; rfl
                          have e6 : (name.toList == [98, 108, 97, 110, 107]) = false := by rw [← hL, k11]; rfl
                          have e7 : (name.toList == [112, 117, 110, 99, 116]) = false := by rw [← hL, k11]; rfl
                          have e8 : (name.toList == [112, 114, 105, 110, 116]) = false := by rw [← hL, k11]; rfl
                          have e9 : (name.toList == [103, 114, 97, 112, 104]) = false := by rw [← hL, k11]; rfl
                          have e10 : (name.toList == [99, 110, 116, 114, 108]) = false := by rw [← hL, k11]; rfl
                          have e11 : (name.toList == [120, 100, 105, 103, 105, 116]) = true := by rw [← hL, k11]; rfl
                          clear hL k0 k1 k2 k3 k4 k5 k6 k7 k8 k9 k10 k11
                          go_enter Try.func76, Try.ntmps76
                          go_wp2_with fail
                          go_ret
                          exact ⟨by rw [HI.out, Hxdigit.out]; rfl, rfl⟩
                        · skip
                          have HN := Lib.hid (show inS L c = -1 by unfold inS; rw [if_neg k0, if_neg k1, if_neg k2, if_neg k3, if_neg k4, if_neg k5, if_neg k6, if_neg k7, if_neg k8, if_neg k9, if_neg k10, if_neg k11])
                          have e0 : (name.toList == [97, 108, 112, 104, 97]) = false := by rw [← hL, beq_eq_false_iff_ne]; exact k0
                          have e1 : (name.toList == [100, 105, 103, 105, 116]) = false := by rw [← hL, beq_eq_false_iff_ne]; exact k1
                          have e2 : (name.toList == [97, 108, 110, 117, 109]) = false := by rw [← hL, beq_eq_false_iff_ne]; exact k2
                          have e3 : (name.toList == [117, 112, 112, 101, 114]) = false := by rw [← hL, beq_eq_false_iff_ne]; exact k3
                          have e4 : (name.toList == [108, 111, 119, 101, 114]) = false := by rw [← hL, beq_eq_false_iff_ne]; exact k4
                          have e5 : (name.toList == [115, 112, 97, 99, 101]) = false := by rw [← hL, beq_eq_false_iff_ne]; exact k5
                          have e6 : (name.toList == [98, 108, 97, 110, 107]) = false := by rw [← hL, beq_eq_false_iff_ne]; exact k6
                          have e7 : (name.toList == [112, 117, 110, 99, 116]) = false := by rw [← hL, beq_eq_false_iff_ne]; exact k7
                          have e8 : (name.toList == [112, 114, 105, 110, 116]) = false := by rw [← hL, beq_eq_false_iff_ne]; exact k8
                          have e9 : (name.toList == [103, 114, 97, 112, 104]) = false := by rw [← hL, beq_eq_false_iff_ne]; exact k9
                          have e10 : (name.toList == [99, 110, 116, 114, 108]) = false := by rw [← hL, beq_eq_false_iff_ne]; exact k10
                          have e11 : (name.toList == [120, 100, 105, 103, 105, 116]) = false := by rw [← hL, beq_eq_false_iff_ne]; exact k11
                          clear hL k0 k1 k2 k3 k4 k5 k6 k7 k8 k9 k10 k11
                          go_enter Try.func76, Try.ntmps76
                          go_wp2_with fail
                          go_ret
                          exact ⟨by rw [HI.out, HN.out]; rfl, rfl⟩
set_option maxRecDepth 100000 in
set_option maxHeartbeats 4000000 in
theorem in_14 (name : ByteArray) (c : Nat) (ha : 14 ≤ c) (hb : c ≤ 31) (w : World) : Calls Try.prog 76 #[.string name, .int .i64 (c : Int)] w fun e w' => e = .returned (.int .i64 (inS name.toList c)) ∧ w' = w := by
  have y0 : ¬ (65 : Int) ≤ (c : Int) := by omega
  have z0 : decide ((65 : Int) ≤ (c : Int)) = false := decide_eq_false y0
  have y1 : ¬ (97 : Int) ≤ (c : Int) := by omega
  have z1 : decide ((97 : Int) ≤ (c : Int)) = false := decide_eq_false y1
  have y2 : ¬ (48 : Int) ≤ (c : Int) := by omega
  have z2 : decide ((48 : Int) ≤ (c : Int)) = false := decide_eq_false y2
  have y3 : (9 : Int) ≤ (c : Int) := by omega
  have z3 : decide ((9 : Int) ≤ (c : Int)) = true := decide_eq_true y3
  have y4 : ¬ (33 : Int) ≤ (c : Int) := by omega
  have z4 : decide ((33 : Int) ≤ (c : Int)) = false := decide_eq_false y4
  have y5 : ¬ (32 : Int) ≤ (c : Int) := by omega
  have z5 : decide ((32 : Int) ≤ (c : Int)) = false := decide_eq_false y5
  have x0 : (c : Int) ≤ (90 : Int) := by omega
  have v0 : decide ((c : Int) ≤ (90 : Int)) = true := decide_eq_true x0
  have x1 : (c : Int) ≤ (122 : Int) := by omega
  have v1 : decide ((c : Int) ≤ (122 : Int)) = true := decide_eq_true x1
  have x2 : (c : Int) ≤ (57 : Int) := by omega
  have v2 : decide ((c : Int) ≤ (57 : Int)) = true := decide_eq_true x2
  have x3 : ¬ (c : Int) ≤ (13 : Int) := by omega
  have v3 : decide ((c : Int) ≤ (13 : Int)) = false := decide_eq_false x3
  have x4 : (c : Int) ≤ (126 : Int) := by omega
  have v4 : decide ((c : Int) ≤ (126 : Int)) = true := decide_eq_true x4
  have x5 : (c : Int) ≤ (31 : Int) := by omega
  have v5 : decide ((c : Int) ≤ (31 : Int)) = true := decide_eq_true x5
  have x6 : (c : Int) ≤ (70 : Int) := by omega
  have v6 : decide ((c : Int) ≤ (70 : Int)) = true := decide_eq_true x6
  have x7 : (c : Int) ≤ (102 : Int) := by omega
  have v7 : decide ((c : Int) ≤ (102 : Int)) = true := decide_eq_true x7
  have q0 : ((c : Int) == 32) = false := by rw [beq_eq_false_iff_ne]; omega
  have q1 : ((c : Int) == 9) = false := by rw [beq_eq_false_iff_ne]; omega
  have q2 : ((c : Int) == 127) = false := by rw [beq_eq_false_iff_ne]; omega
  obtain ⟨L, hL⟩ : ∃ L, L = name.toList := ⟨_, rfl⟩
  have HI := Lib.hid (show inS name.toList c = inS L c by rw [hL])
  have Halpha := Lib.hid (show inS [97, 108, 112, 104, 97] c = 0 by rw [inS_alpha, if_neg (by omega)])
  have Hdigit := Lib.hid (show inS [100, 105, 103, 105, 116] c = 0 by rw [inS_digit, if_neg (by omega)])
  have Halnum := Lib.hid (show inS [97, 108, 110, 117, 109] c = 0 by rw [inS_alnum, if_neg (by omega)])
  have Hupper := Lib.hid (show inS [117, 112, 112, 101, 114] c = 0 by rw [inS_upper, if_neg (by omega)])
  have Hlower := Lib.hid (show inS [108, 111, 119, 101, 114] c = 0 by rw [inS_lower, if_neg (by omega)])
  have Hspace := Lib.hid (show inS [115, 112, 97, 99, 101] c = 0 by rw [inS_space, if_neg (by omega)])
  have Hblank := Lib.hid (show inS [98, 108, 97, 110, 107] c = 0 by rw [inS_blank, if_neg (by omega)])
  have Hpunct := Lib.hid (show inS [112, 117, 110, 99, 116] c = 0 by rw [inS_punct, if_neg (by omega)])
  have Hprint := Lib.hid (show inS [112, 114, 105, 110, 116] c = 0 by rw [inS_print, if_neg (by omega)])
  have Hgraph := Lib.hid (show inS [103, 114, 97, 112, 104] c = 0 by rw [inS_graph, if_neg (by omega)])
  have Hcntrl := Lib.hid (show inS [99, 110, 116, 114, 108] c = 1 by rw [inS_cntrl, if_pos (by omega)])
  have Hxdigit := Lib.hid (show inS [120, 100, 105, 103, 105, 116] c = 0 by rw [inS_xdigit, if_neg (by omega)])
  clear ha hb
  by_cases k0 : L = [97, 108, 112, 104, 97]
  · rw [k0] at HI
    have e0 : (name.toList == [97, 108, 112, 104, 97]) = true := by rw [← hL, k0]; rfl
    clear hL k0
    go_enter Try.func76, Try.ntmps76
    go_wp2_with fail
    go_ret
    exact ⟨by rw [HI.out, Halpha.out]; rfl, rfl⟩
  · skip
    by_cases k1 : L = [100, 105, 103, 105, 116]
    · rw [k1] at HI
      have e0 : (name.toList == [97, 108, 112, 104, 97]) = false := by rw [← hL, k1]; rfl
      have e1 : (name.toList == [100, 105, 103, 105, 116]) = true := by rw [← hL, k1]; rfl
      clear hL k0 k1
      go_enter Try.func76, Try.ntmps76
      go_wp2_with fail
      go_ret
      exact ⟨by rw [HI.out, Hdigit.out]; rfl, rfl⟩
    · skip
      by_cases k2 : L = [97, 108, 110, 117, 109]
      · rw [k2] at HI
        have e0 : (name.toList == [97, 108, 112, 104, 97]) = false := by rw [← hL, k2]; rfl
        have e1 : (name.toList == [100, 105, 103, 105, 116]) = false := by rw [← hL, k2]; rfl
        have e2 : (name.toList == [97, 108, 110, 117, 109]) = true := by rw [← hL, k2]; rfl
        clear hL k0 k1 k2
        go_enter Try.func76, Try.ntmps76
        go_wp2_with fail
        go_ret
        exact ⟨by rw [HI.out, Halnum.out]; rfl, rfl⟩
      · skip
        by_cases k3 : L = [117, 112, 112, 101, 114]
        · rw [k3] at HI
          have e0 : (name.toList == [97, 108, 112, 104, 97]) = false := by rw [← hL, k3]; rfl
          have e1 : (name.toList == [100, 105, 103, 105, 116]) = false := by rw [← hL, k3]; rfl
          have e2 : (name.toList == [97, 108, 110, 117, 109]) = false := by rw [← hL, k3]; rfl
          have e3 : (name.toList == [117, 112, 112, 101, 114]) = true := by rw [← hL, k3]; rfl
          clear hL k0 k1 k2 k3
          go_enter Try.func76, Try.ntmps76
          go_wp2_with fail
          go_ret
          exact ⟨by rw [HI.out, Hupper.out]; rfl, rfl⟩
        · skip
          by_cases k4 : L = [108, 111, 119, 101, 114]
          · rw [k4] at HI
            have e0 : (name.toList == [97, 108, 112, 104, 97]) = false := by rw [← hL, k4]; rfl
            have e1 : (name.toList == [100, 105, 103, 105, 116]) = false := by rw [← hL, k4]; rfl
            have e2 : (name.toList == [97, 108, 110, 117, 109]) = false := by rw [← hL, k4]; rfl
            have e3 : (name.toList == [117, 112, 112, 101, 114]) = false := by rw [← hL, k4]; rfl
            have e4 : (name.toList == [108, 111, 119, 101, 114]) = true := by rw [← hL, k4]; rfl
            clear hL k0 k1 k2 k3 k4
            go_enter Try.func76, Try.ntmps76
            go_wp2_with fail
            go_ret
            exact ⟨by rw [HI.out, Hlower.out]; rfl, rfl⟩
          · skip
            by_cases k5 : L = [115, 112, 97, 99, 101]
            · rw [k5] at HI
              have e0 : (name.toList == [97, 108, 112, 104, 97]) = false := by rw [← hL, k5]; rfl
              have e1 : (name.toList == [100, 105, 103, 105, 116]) = false := by rw [← hL, k5]; rfl
              have e2 : (name.toList == [97, 108, 110, 117, 109]) = false := by rw [← hL, k5]; rfl
              have e3 : (name.toList == [117, 112, 112, 101, 114]) = false := by rw [← hL, k5]; rfl
              have e4 : (name.toList == [108, 111, 119, 101, 114]) = false := by rw [← hL, k5]; rfl
              have e5 : (name.toList == [115, 112, 97, 99, 101]) = true := by rw [← hL, k5]; rfl
              clear hL k0 k1 k2 k3 k4 k5
              go_enter Try.func76, Try.ntmps76
              go_wp2_with fail
              go_ret
              exact ⟨by rw [HI.out, Hspace.out]; rfl, rfl⟩
            · skip
              by_cases k6 : L = [98, 108, 97, 110, 107]
              · rw [k6] at HI
                have e0 : (name.toList == [97, 108, 112, 104, 97]) = false := by rw [← hL, k6]; rfl
                have e1 : (name.toList == [100, 105, 103, 105, 116]) = false := by rw [← hL, k6]; rfl
                have e2 : (name.toList == [97, 108, 110, 117, 109]) = false := by rw [← hL, k6]; rfl
                have e3 : (name.toList == [117, 112, 112, 101, 114]) = false := by rw [← hL, k6]; rfl
                have e4 : (name.toList == [108, 111, 119, 101, 114]) = false := by rw [← hL, k6]; rfl
                have e5 : (name.toList == [115, 112, 97, 99, 101]) = false := by rw [← hL, k6]; rfl
                have e6 : (name.toList == [98, 108, 97, 110, 107]) = true := by rw [← hL, k6]; rfl
                clear hL k0 k1 k2 k3 k4 k5 k6
                go_enter Try.func76, Try.ntmps76
                go_wp2_with fail
                go_ret
                exact ⟨by rw [HI.out, Hblank.out]; rfl, rfl⟩
              · skip
                by_cases k7 : L = [112, 117, 110, 99, 116]
                · rw [k7] at HI
                  have e0 : (name.toList == [97, 108, 112, 104, 97]) = false := by rw [← hL, k7]; rfl
                  have e1 : (name.toList == [100, 105, 103, 105, 116]) = false := by rw [← hL, k7]; rfl
                  have e2 : (name.toList == [97, 108, 110, 117, 109]) = false := by rw [← hL, k7]; rfl
                  have e3 : (name.toList == [117, 112, 112, 101, 114]) = false := by rw [← hL, k7]; rfl
                  have e4 : (name.toList == [108, 111, 119, 101, 114]) = false := by rw [← hL, k7]; rfl
                  have e5 : (name.toList == [115, 112, 97, 99, 101]) = false := by rw [← hL, k7]; rfl
                  have e6 : (name.toList == [98, 108, 97, 110, 107]) = false := by rw [← hL, k7]; rfl
                  have e7 : (name.toList == [112, 117, 110, 99, 116]) = true := by rw [← hL, k7]; rfl
                  clear hL k0 k1 k2 k3 k4 k5 k6 k7
                  go_enter Try.func76, Try.ntmps76
                  go_wp2_with fail
                  go_ret
                  exact ⟨by rw [HI.out, Hpunct.out]; rfl, rfl⟩
                · skip
                  by_cases k8 : L = [112, 114, 105, 110, 116]
                  · rw [k8] at HI
                    have e0 : (name.toList == [97, 108, 112, 104, 97]) = false := by rw [← hL, k8]; rfl
                    have e1 : (name.toList == [100, 105, 103, 105, 116]) = false := by rw [← hL, k8]; rfl
                    have e2 : (name.toList == [97, 108, 110, 117, 109]) = false := by rw [← hL, k8]; rfl
                    have e3 : (name.toList == [117, 112, 112, 101, 114]) = false := by rw [← hL, k8]; rfl
                    have e4 : (name.toList == [108, 111, 119, 101, 114]) = false := by rw [← hL, k8]; rfl
                    have e5 : (name.toList == [115, 112, 97, 99, 101]) = false := by rw [← hL, k8]; rfl
                    have e6 : (name.toList == [98, 108, 97, 110, 107]) = false := by rw [← hL, k8]; rfl
                    have e7 : (name.toList == [112, 117, 110, 99, 116]) = false := by rw [← hL, k8]; rfl
                    have e8 : (name.toList == [112, 114, 105, 110, 116]) = true := by rw [← hL, k8]; rfl
                    clear hL k0 k1 k2 k3 k4 k5 k6 k7 k8
                    go_enter Try.func76, Try.ntmps76
                    go_wp2_with fail
                    go_ret
                    exact ⟨by rw [HI.out, Hprint.out]; rfl, rfl⟩
                  · skip
                    by_cases k9 : L = [103, 114, 97, 112, 104]
                    · rw [k9] at HI
                      have e0 : (name.toList == [97, 108, 112, 104, 97]) = false := by rw [← hL, k9]; rfl
                      have e1 : (name.toList == [100, 105, 103, 105, 116]) = false := by rw [← hL, k9]; rfl
                      have e2 : (name.toList == [97, 108, 110, 117, 109]) = false := by rw [← hL, k9]; rfl
                      have e3 : (name.toList == [117, 112, 112, 101, 114]) = false := by rw [← hL, k9]; rfl
                      have e4 : (name.toList == [108, 111, 119, 101, 114]) = false := by rw [← hL, k9]; rfl
                      have e5 : (name.toList == [115, 112, 97, 99, 101]) = false := by rw [← hL, k9]; rfl
                      have e6 : (name.toList == [98, 108, 97, 110, 107]) = false := by rw [← hL, k9]; rfl
                      have e7 : (name.toList == [112, 117, 110, 99, 116]) = false := by rw [← hL, k9]; rfl
                      have e8 : (name.toList == [112, 114, 105, 110, 116]) = false := by rw [← hL, k9]; rfl
                      have e9 : (name.toList == [103, 114, 97, 112, 104]) = true := by rw [← hL, k9]; rfl
                      clear hL k0 k1 k2 k3 k4 k5 k6 k7 k8 k9
                      go_enter Try.func76, Try.ntmps76
                      go_wp2_with fail
                      go_ret
                      exact ⟨by rw [HI.out, Hgraph.out]; rfl, rfl⟩
                    · skip
                      by_cases k10 : L = [99, 110, 116, 114, 108]
                      · rw [k10] at HI
                        have e0 : (name.toList == [97, 108, 112, 104, 97]) = false := by rw [← hL, k10]; rfl
                        have e1 : (name.toList == [100, 105, 103, 105, 116]) = false := by rw [← hL, k10]; rfl
                        have e2 : (name.toList == [97, 108, 110, 117, 109]) = false := by rw [← hL, k10]; rfl
                        have e3 : (name.toList == [117, 112, 112, 101, 114]) = false := by rw [← hL, k10]; rfl
                        have e4 : (name.toList == [108, 111, 119, 101, 114]) = false := by rw [← hL, k10]; rfl
                        have e5 : (name.toList == [115, 112, 97, 99, 101]) = false := by rw [← hL, k10]; rfl
                        have e6 : (name.toList == [98, 108, 97, 110, 107]) = false := by rw [← hL, k10]; rfl
                        have e7 : (name.toList == [112, 117, 110, 99, 116]) = false := by rw [← hL, k10]; rfl
                        have e8 : (name.toList == [112, 114, 105, 110, 116]) = false := by rw [← hL, k10]; rfl
                        have e9 : (name.toList == [103, 114, 97, 112, 104]) = false := by rw [← hL, k10]; rfl
                        have e10 : (name.toList == [99, 110, 116, 114, 108]) = true := by rw [← hL, k10]; rfl
                        clear hL k0 k1 k2 k3 k4 k5 k6 k7 k8 k9 k10
                        go_enter Try.func76, Try.ntmps76
                        go_wp2_with fail
                        go_ret
                        exact ⟨by rw [HI.out, Hcntrl.out]; rfl, rfl⟩
                      · skip
                        by_cases k11 : L = [120, 100, 105, 103, 105, 116]
                        · rw [k11] at HI
                          have e0 : (name.toList == [97, 108, 112, 104, 97]) = false := by rw [← hL, k11]; rfl
                          have e1 : (name.toList == [100, 105, 103, 105, 116]) = false := by rw [← hL, k11]; rfl
                          have e2 : (name.toList == [97, 108, 110, 117, 109]) = false := by rw [← hL, k11]; rfl
                          have e3 : (name.toList == [117, 112, 112, 101, 114]) = false := by rw [← hL, k11]; rfl
                          have e4 : (name.toList == [108, 111, 119, 101, 114]) = false := by rw [← hL, k11]; rfl
                          have e5 : (name.toList == [115, 112, 97, 99, 101]) = false := by rw [← hL, k11]; rfl
                          have e6 : (name.toList == [98, 108, 97, 110, 107]) = false := by rw [← hL, k11]; rfl
                          have e7 : (name.toList == [112, 117, 110, 99, 116]) = false := by rw [← hL, k11]; rfl
                          have e8 : (name.toList == [112, 114, 105, 110, 116]) = false := by rw [← hL, k11]; rfl
                          have e9 : (name.toList == [103, 114, 97, 112, 104]) = false := by rw [← hL, k11]; rfl
                          have e10 : (name.toList == [99, 110, 116, 114, 108]) = false := by rw [← hL, k11]; rfl
                          have e11 : (name.toList == [120, 100, 105, 103, 105, 116]) = true := by rw [← hL, k11]; rfl
                          clear hL k0 k1 k2 k3 k4 k5 k6 k7 k8 k9 k10 k11
                          go_enter Try.func76, Try.ntmps76
                          go_wp2_with fail
                          go_ret
                          exact ⟨by rw [HI.out, Hxdigit.out]; rfl, rfl⟩
                        · skip
                          have HN := Lib.hid (show inS L c = -1 by unfold inS; rw [if_neg k0, if_neg k1, if_neg k2, if_neg k3, if_neg k4, if_neg k5, if_neg k6, if_neg k7, if_neg k8, if_neg k9, if_neg k10, if_neg k11])
                          have e0 : (name.toList == [97, 108, 112, 104, 97]) = false := by rw [← hL, beq_eq_false_iff_ne]; exact k0
                          have e1 : (name.toList == [100, 105, 103, 105, 116]) = false := by rw [← hL, beq_eq_false_iff_ne]; exact k1
                          have e2 : (name.toList == [97, 108, 110, 117, 109]) = false := by rw [← hL, beq_eq_false_iff_ne]; exact k2
                          have e3 : (name.toList == [117, 112, 112, 101, 114]) = false := by rw [← hL, beq_eq_false_iff_ne]; exact k3
                          have e4 : (name.toList == [108, 111, 119, 101, 114]) = false := by rw [← hL, beq_eq_false_iff_ne]; exact k4
                          have e5 : (name.toList == [115, 112, 97, 99, 101]) = false := by rw [← hL, beq_eq_false_iff_ne]; exact k5
                          have e6 : (name.toList == [98, 108, 97, 110, 107]) = false := by rw [← hL, beq_eq_false_iff_ne]; exact k6
                          have e7 : (name.toList == [112, 117, 110, 99, 116]) = false := by rw [← hL, beq_eq_false_iff_ne]; exact k7
                          have e8 : (name.toList == [112, 114, 105, 110, 116]) = false := by rw [← hL, beq_eq_false_iff_ne]; exact k8
                          have e9 : (name.toList == [103, 114, 97, 112, 104]) = false := by rw [← hL, beq_eq_false_iff_ne]; exact k9
                          have e10 : (name.toList == [99, 110, 116, 114, 108]) = false := by rw [← hL, beq_eq_false_iff_ne]; exact k10
                          have e11 : (name.toList == [120, 100, 105, 103, 105, 116]) = false := by rw [← hL, beq_eq_false_iff_ne]; exact k11
                          clear hL k0 k1 k2 k3 k4 k5 k6 k7 k8 k9 k10 k11
                          go_enter Try.func76, Try.ntmps76
                          go_wp2_with fail
                          go_ret
                          exact ⟨by rw [HI.out, HN.out]; rfl, rfl⟩
end Go.Proofs.Ytpeidgppcdkjdaa
