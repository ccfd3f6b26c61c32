/-
  RopeLarge, of any package of ropes. Condition: the package's calls do what RopeApi says.
-/
import Derived.Test.YtfibclaojdoonaaRapi
namespace Go.Proofs.Ytfibclaojdoonaa
open Go.RowKit Go.Deep

/-- How long the string in a slot is. -/
def strLen : Value → Nat
  | .string s => s.size
  | _ => 0
section
variable {R : World → Option Addr → List UInt8 → Prop}

set_option maxRecDepth 100000 in
set_option maxHeartbeats 2000000 in
theorem large_any (K : RopeApi R) (s : ByteArray) (n : Int) (w : World) (hn : (Lit.int .i64 n).wf = true) :
    Calls Try.prog 6 #[.string s, .int .i64 n] w (TrueIs w) := by
  have HAL := Lib.hid fun (W : World) => alive_any K W
  by_cases h0 : s.size = 0
  · have d0 : decide ((s.size : Int) = 0) = true := decide_eq_true (by omega)
    have d0' : ((s.size : Int) == 0) = true := beq_iff_eq.2 (by omega)
    clear h0 hn
    go_enter Try.func6, Try.ntmps6
    go_wp2_with fail
    go_at_call 15
    (with_reducible refine (HAL.out _).mono ?_)
    rintro e w1 ⟨rfl, hb1⟩
    go_wp2_with fail
    go_ret
    exact ⟨rfl, hb1⟩
  by_cases h64 : 64 < s.size
  · have d0 : decide ((s.size : Int) = 0) = false := decide_eq_false (by omega)
    have d0' : ((s.size : Int) == 0) = false := beq_eq_false_iff_ne.2 (by omega)
    have d1 : decide (64 < (s.size : Int)) = true := decide_eq_true (by omega)
    have d1n : decide (64 < s.size) = true := decide_eq_true (by omega)
    clear h0 h64 hn
    go_enter Try.func6, Try.ntmps6
    go_wp2_with fail
    go_at_call 15
    (with_reducible refine (HAL.out _).mono ?_)
    rintro e w1 ⟨rfl, hb1⟩
    go_wp2_with fail
    go_ret
    exact ⟨rfl, hb1⟩
  have d0 : decide ((s.size : Int) = 0) = false := decide_eq_false (by omega)
  have d0' : ((s.size : Int) == 0) = false := beq_eq_false_iff_ne.2 (by omega)
  have d1 : decide (64 < (s.size : Int)) = false := decide_eq_false (by omega)
  have d1n : decide (64 < s.size) = false := decide_eq_false (by omega)
  obtain ⟨r, er⟩ : ∃ r, r = red n 65536 := ⟨_, rfl⟩
  have hr : r < 65536 := by
    rw [er]; unfold red; split <;> exact Nat.mod_lt _ (by omega)
  have hpk : ∀ W : World, Calls Try.prog 8 #[.int .i64 n, .int .i64 65536] W fun e w' => e = .returned (.int .i64 (r : Int)) ∧ W = w' := fun W => by
    rw [er]; exact pick_any n 65536 W hn (by omega) (by omega)
  have HPK := Lib.hid hpk
  have HS := Lib.hid (show 0 < s.size ∧ s.size ≤ 64 by omega)
  have HRL := Lib.hid hr
  clear hn h0 h64 hpk er hr
  go_enter Try.func6, Try.ntmps6
  go_wp2_with fail
  go_loop [5] (fun v => ∃ (S : ByteArray) (L : List UInt8), v = .string S ∧ S = txt L ∧ 0 < S.size ∧ S.size ≤ 131072) (fun v => 131073 - strLen v)
  case atStart => exact ⟨s, s.data.toList, rfl, (txt_of s).symm, by have := HS.out; omega, by have := HS.out; omega⟩
  case round =>
    obtain ⟨S, L, rfl, hS, hpos, hmax⟩ := hrel
    have HSE := Lib.hid hS
    have HSB := Lib.hid (And.intro hpos hmax)
    by_cases hlt : S.size ≤ 65536
    · have c1 : decide ((S.size : Int) ≤ 65536) = true := decide_eq_true (by omega)
      have c1n : decide (S.size ≤ 65536) = true := decide_eq_true (by omega)
      have hfit : (9223372036854775807 < S.size + S.size) = False := eq_false (by omega)
      have HLT := Lib.hid hlt
      clear hS hpos hmax hlt
      go_wp2_with fail
      go_round
      case rel =>
        refine ⟨S ++ S, L ++ L, rfl, by rw [HSE.out, txt_append], ?_, ?_⟩
        · have := HSB.out; rw [ByteArray.size_append]; omega
        · have := HLT.out; rw [ByteArray.size_append]; omega
      case measure =>
        have h1 := HSB.out
        have h2 := HLT.out
        simp only [strLen, ByteArray.size_append]
        omega
    · have c1 : decide ((S.size : Int) ≤ 65536) = false := decide_eq_false (by omega)
      have c1n : decide (S.size ≤ 65536) = false := decide_eq_false (by omega)
      have hlen : S.size = L.length := by rw [hS, size_txt]
      have hr := HRL.out
      obtain ⟨T1, e1⟩ : ∃ T, T = txt (L.take 65536) := ⟨_, rfl⟩
      obtain ⟨T2, e2⟩ : ∃ T, T = txt (L.take 65537) := ⟨_, rfl⟩
      obtain ⟨r1, er1⟩ : ∃ k, k = r + 1 := ⟨_, rfl⟩
      obtain ⟨r2, er2⟩ : ∃ k, k = 65536 - r := ⟨_, rfl⟩
      obtain ⟨T3, e3⟩ : ∃ T, T = txt (L.take r1) := ⟨_, rfl⟩
      obtain ⟨T4, e4⟩ : ∃ T, T = txt (L.take r2) := ⟨_, rfl⟩
      have q1 : (Instr.slice 9 (.string S) none (some (.int .i64 65536)) none).run Try.prog = fun W => .ok (.string T1) W := by
        funext W; rw [e1]; exact str_slice_to hS (b := 65536) (by omega) W
      have q2 : (Instr.slice 9 (.string S) none (some (.int .i64 65537)) none).run Try.prog = fun W => .ok (.string T2) W := by
        funext W; rw [e2]; exact str_slice_to hS (b := 65537) (by omega) W
      have q3 := fun W => str_slice_to hS (b := r1) (by omega) W
      have q4 := fun W => str_slice_to hS (b := r2) (by omega) W
      rw [← e3] at q3
      rw [← e4] at q4
      have s1 : IntKind.i64.wrap ((r : Int) + 1) = (r1 : Int) := by rw [show (r : Int) + 1 = (r1 : Int) by omega]; exact IntWalk.i64_in _ (by omega)
      have s2 : IntKind.i64.wrap (65536 - (r : Int)) = (r2 : Int) := by rw [show 65536 - (r : Int) = (r2 : Int) by omega]; exact IntWalk.i64_in _ (by omega)
      have HO1 := Lib.hid fun (W : World) => K.of_ok (L.take 65536) T1 W e1 (by simp; omega)
      have HO2 := Lib.hid fun (W : World) => K.of_no (L.take 65537) T2 W e2 (by simp; omega) (by simp; omega)
      have HO3 := Lib.hid fun (W : World) => K.of_ok (L.take r1) T3 W e3 (by simp; omega)
      have HO4 := Lib.hid fun (W : World) => K.of_ok (L.take r2) T4 W e4 (by simp; omega)
      have hsum : 65536 < (L.take r1).length + (L.take r2).length := by simp; omega
      have hone : (L.take 65536).length = 65536 := by simp; omega
      have HSUM := Lib.hid hsum
      have HONE := Lib.hid hone
      clear hS hpos hmax hlt hlen hr e1 e2 e3 e4 er1 er2 hsum hone HSE
      go_wp2_with fail
      go_at_call 8
      (with_reducible refine (HPK.out _).mono ?_)
      rintro e w1 ⟨rfl, rfl⟩
      go_wp2_with fail
      go_at_call 9
      (with_reducible refine (HO1.out _).mono ?_)
      rintro e w1 ⟨p1, rfl, hp1, hb1⟩
      have HP1 := Lib.hid hp1
      have HB1 := Lib.hid hb1
      clear hp1 hb1
      go_wp2_with fail
      go_at_call 9
      (with_reducible refine (HO2.out _).mono ?_)
      rintro e w2 ⟨p2, rfl, hb2⟩
      have HB2 := Lib.hid hb2
      clear hb2
      go_wp2_with fail
      go_at_call 9
      (with_reducible refine (HO3.out _).mono ?_)
      rintro e w3 ⟨p3, rfl, hp3, hb3⟩
      have HP3 := Lib.hid hp3
      have HB3 := Lib.hid hb3
      clear hp3 hb3
      go_wp2_with fail
      go_at_call 9
      (with_reducible refine (HO4.out _).mono ?_)
      rintro e w4 ⟨p4, rfl, hp4, hb4⟩
      have HJ1 := Lib.hid (K.join_no (K.below HP3.out hb4) hp4 HSUM.out)
      have HB4 := Lib.hid hb4
      clear hp4 hb4
      go_wp2_with fail
      go_at_call 11
      (with_reducible refine HJ1.out.mono ?_)
      rintro e w5 ⟨p5, rfl, hb5⟩
      have hbb : Below w2.heap.size w2 w5 := (HB3.out.trans (HB4.out.mono HB3.out.size)).trans (hb5.mono (Nat.le_trans HB3.out.size HB4.out.size))
      have hba : Below w1.heap.size w1 w5 := HB2.out.trans (hbb.mono HB2.out.size)
      have HJ2 := Lib.hid (K.join_ok (K.below HP1.out hba) (K.nil w5) (by have := HONE.out; simp only [List.length_nil]; omega))
      have HBA := Lib.hid (HB1.out.trans (hba.mono HB1.out.size))
      clear hbb hba hb5
      go_wp2_with fail
      go_at_call 11
      (with_reducible refine HJ2.out.mono ?_)
      rintro e w6 ⟨p6, rfl, hp6, hb6⟩
      have HB6 := Lib.hid (HBA.out.trans (hb6.mono HBA.out.size))
      have hl6 : ((List.length (List.take 65536 L ++ []) : Nat) : Int) = 65536 := by rw [List.append_nil, HONE.out]; rfl
      have hle : ∀ W : World, Below w6.heap.size w6 W → Calls Try.prog 18 #[.pointer p6] W (Answers (.int .i64 65536) W) := fun W hb => by
        have h := K.len_is (K.below hp6 hb)
        rw [hl6] at h
        exact h
      have HLE := Lib.hid hle
      clear hle hl6
      clear hp6 hb6
      go_wp2_with fail
      go_at_call 15
      (with_reducible refine (HAL.out _).mono ?_)
      rintro e w7 ⟨rfl, hb7⟩
      have HB7 := Lib.hid hb7
      clear hb7
      go_wp2_with fail
      go_at_call 18
      (with_reducible refine (HLE.out _ HB7.out).mono ?_)
      rintro e w8 ⟨rfl, hb8⟩
      have HB8 := Lib.hid ((HB6.out.trans (HB7.out.mono HB6.out.size)).trans (hb8.mono (Nat.le_trans HB6.out.size HB7.out.size)))
      clear hb8
      go_wp2_with fail
      go_ret
      exact ⟨rfl, HB8.out⟩
end
end Go.Proofs.Ytfibclaojdoonaa
