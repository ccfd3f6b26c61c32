/-
  RopeLines, of any package of ropes. Condition: the package's calls do what RopeApi says.
-/
import Derived.Test.YtfibclaojdoonaaRapi
import Derived.Test.YtfibclaojdoonaaRlnp
import Derived.WalkArith
namespace Go.Proofs.Ytfibclaojdoonaa
open Go.RowKit Go.Deep

section
variable {R : World → Option Addr → List UInt8 → Prop}

set_option maxRecDepth 100000 in
set_option maxHeartbeats 4000000 in
theorem lines_any (K : RopeApi R) (s t : ByteArray) (w : World) :
    Calls Try.prog 4 #[.string s, .string t] w (TrueIs w) := by
  have HAL := Lib.hid fun (W : World) => alive_any K W
  by_cases h1 : 300 < s.size
  · have d1 : decide (300 < (s.size : Int)) = true := decide_eq_true (by omega)
    have d1n : decide (300 < s.size) = true := decide_eq_true (by omega)
    clear h1
    go_enter Try.func4, Try.ntmps4
    go_wp2_with fail
    go_at_call 15
    (with_reducible refine (HAL.out _).mono ?_)
    rintro e w1 ⟨rfl, hb1⟩
    go_wp2_with fail
    go_ret
    exact ⟨rfl, hb1⟩
  by_cases h2 : 300 < t.size
  · have d1 : decide (300 < (s.size : Int)) = false := decide_eq_false (by omega)
    have d1n : decide (300 < s.size) = false := decide_eq_false (by omega)
    have d2 : decide (300 < (t.size : Int)) = true := decide_eq_true (by omega)
    have d2n : decide (300 < t.size) = true := decide_eq_true (by omega)
    clear h1 h2
    go_enter Try.func4, Try.ntmps4
    go_wp2_with fail
    go_at_call 15
    (with_reducible refine (HAL.out _).mono ?_)
    rintro e w1 ⟨rfl, hb1⟩
    go_wp2_with fail
    go_ret
    exact ⟨rfl, hb1⟩
  have d1 : decide (300 < (s.size : Int)) = false := decide_eq_false (by omega)
  have d1n : decide (300 < s.size) = false := decide_eq_false (by omega)
  have d2 : decide (300 < (t.size : Int)) = false := decide_eq_false (by omega)
  have d2n : decide (300 < t.size) = false := decide_eq_false (by omega)
  have hfit : (9223372036854775807 < s.size + t.size) = False := eq_false (by omega)
  obtain ⟨a, ea⟩ : ∃ a, s = txt a := ⟨s.data.toList, (txt_of s).symm⟩
  obtain ⟨b, eb⟩ : ∃ b, t = txt b := ⟨t.data.toList, (txt_of t).symm⟩
  have hal : a.length = s.size := by rw [ea, size_txt]
  have hbl : b.length = t.size := by rw [eb, size_txt]
  have hst : txt (a ++ b) = s ++ t := by rw [ea, eb, txt_append]
  obtain ⟨L, eL⟩ : ∃ L, L = a ++ b := ⟨_, rfl⟩
  obtain ⟨n, en⟩ : ∃ n, n = (lns L).length := ⟨_, rfl⟩
  have hLl : L.length = s.size + t.size := by rw [eL, List.length_append, hal, hbl]
  have hn : n ≤ 600 := by have := lns_length_le L; omega
  have HOA := Lib.hid fun (W : World) => K.of_ok a s W ea (by omega)
  have HOB := Lib.hid fun (W : World) => K.of_ok b t W eb (by omega)
  have HJO := Lib.hid fun (W : World) (p q : Option Addr) (hp : R W p a) (hq : R W q b) => by
    have h := K.join_ok hp hq (by omega)
    rw [← eL] at h
    exact h
  have HLS := Lib.hid fun (W : World) (p : Option Addr) (hp : R W p L) => by
    have h := K.lines_is hp
    rw [← en] at h
    exact h
  have HLI := Lib.hid fun (W : World) (p : Option Addr) (i : Nat) (hi : i ≤ 600) (hp : R W p L) => K.line_is (i : Int) hp (WalkArith.wf_i64 ⟨by omega, by omega⟩)
  have hle : lineAns L (n : Int) = ([], false, 61) := by
    unfold lineAns
    rw [if_pos (by omega), Int.toNat_natCast, List.getElem?_eq_none (by omega)]
  have HLE := Lib.hid hle
  have HST := Lib.hid (show txt (lns L).flatten = s ++ t by rw [lns_flatten, eL, hst])
  have HNB := Lib.hid hn
  have HNN := Lib.hid en
  have HZ := Lib.hid (show n = 0 ↔ s.size + t.size = 0 by rw [en, lns_nil_iff, hLl])
  have HSZ := Lib.hid (show s.size ≤ 300 ∧ t.size ≤ 300 by omega)
  clear h1 h2 ea eb hal hbl hst eL en hLl hn hle
  go_enter Try.func4, Try.ntmps4
  go_wp2_with fail
  go_at_call 9
  (with_reducible refine (HOA.out _).mono ?_)
  rintro e w1 ⟨p1, rfl, hr1, hb1⟩
  have HK1 := Lib.hid ((KeptR.start (R := R) w).made K hr1 hb1)
  clear hr1 hb1
  go_wp2_with fail
  go_at_call 9
  (with_reducible refine (HOB.out _).mono ?_)
  rintro e w2 ⟨p2, rfl, hr2, hb2⟩
  have HK2 := Lib.hid (HK1.out.made K hr2 hb2)
  clear hr2 hb2
  go_wp2_with fail
  go_at_call 11
  (with_reducible refine (HJO.out _ _ _ (HK2.out.is (by simp)) (HK2.out.is (by simp))).mono ?_)
  rintro e w3 ⟨p, rfl, hr3, hb3⟩
  have HK3 := Lib.hid (HK2.out.made K hr3 hb3)
  clear hr3 hb3
  go_wp2_with fail
  go_at_call 16
  (with_reducible refine (HLS.out _ _ (HK3.out.is (by simp))).mono ?_)
  rintro e w4 ⟨rfl, hb4⟩
  have HK4 := Lib.hid (HK3.out.later K hb4)
  clear hb4
  go_wp2_with fail
  go_loopw [11, 13] (fun v iv wr => ∃ (i : Nat) (A : ByteArray), v = .string A ∧ iv = .int .i64 (i : Int) ∧ i ≤ n ∧ A = txt ((lns L).take i).flatten ∧ KeptR R w [(p, L), (p2, b), (p1, a)] wr) (fun _ iv _ => n - (intOf iv).toNat)
  case atStart => exact ⟨0, ⟨#[]⟩, rfl, rfl, Nat.zero_le _, rfl, HK4.out⟩
  case round =>
    obtain ⟨i, A, rfl, rfl, hi, hA, hk⟩ := hrel
    have HKR := Lib.hid hk
    have HA := Lib.hid hA
    by_cases hlt : i < n
    · have hn := HNB.out
      have c1 : decide (i < n) = true := decide_eq_true hlt
      have c1i : decide ((i : Int) < (n : Int)) = true := decide_eq_true (by omega)
      have c2 : decide ((i : Int) ≤ 600) = true := decide_eq_true (by omega)
      have c2n : decide (i ≤ 600) = true := decide_eq_true (by omega)
      obtain ⟨x, hx⟩ : ∃ x, (lns L)[i]? = some x := ⟨_, List.getElem?_eq_getElem (by rw [← HNN.out]; exact hlt)⟩
      have hxL : x.length ≤ 600 := by
        have h1 := (List.sublist_flatten_of_mem (List.mem_of_getElem? hx)).length_le
        have h2 : (txt (lns L).flatten).size = (s ++ t).size := by rw [HST.out]
        rw [size_txt, ByteArray.size_append] at h2
        have := HSZ.out
        omega
      have hAl : A.size ≤ 600 := by
        have h0 : ((lns L).take i).flatten.length ≤ (lns L).flatten.length := by
          have : (lns L).flatten = ((lns L).take i).flatten ++ ((lns L).drop i).flatten := by rw [← List.flatten_append, List.take_append_drop]
          rw [this, List.length_append]; omega
        have h2 : (txt (lns L).flatten).size = (s ++ t).size := by rw [HST.out]
        rw [size_txt, ByteArray.size_append] at h2
        have := HSZ.out
        rw [hA, size_txt]
        omega
      have hin := lns_inner L x (List.mem_of_getElem? hx)
      have hfl := take_flatten_succ (lns L) i x hx
      have hli := HLI.out wr p i (by omega) (hk.is (by simp))
      have HI := Lib.hid hlt
      by_cases h10 : x.getLast? = some 10
      · have ha : lineAns L (i : Int) = (x.dropLast, true, 0) := by
          unfold lineAns
          rw [if_pos (by omega), Int.toNat_natCast, hx]
          simp only
          rw [if_pos h10]
        obtain ⟨T, eT⟩ : ∃ T, T = txt x.dropLast := ⟨_, rfl⟩
        have hTs : T.size ≤ 600 := by rw [eT, size_txt, List.length_dropLast]; omega
        have hx2 : x = x.dropLast ++ [10] := by
          have hne : x ≠ [] := by intro h; rw [h] at h10; cases h10
          have := List.dropLast_concat_getLast hne
          rw [List.getLast?_eq_some_getLast hne] at h10
          injection h10 with h10
          rw [h10] at this
          exact this.symm
        have hg : ∀ (k : Nat) (h : k < T.size), (((T[k]'h).toNat : Int) == 10) = false := fun k h => by
          have h1 := txt_get eT k h
          have h2 := hin _ (List.mem_of_getElem? h1)
          have h3 : (T[k]'h).toNat ≠ 10 := fun h => h2 (UInt8.toNat_inj.1 h)
          exact beq_eq_false_iff_ne.2 (by omega)
        unfold LineIs at hli
        rw [ha] at hli
        simp only [← eT] at hli
        have f1 : (9223372036854775807 < A.size + T.size) = False := eq_false (by omega)
        have f2 : (9223372036854775807 < A.size + T.size + 1) = False := eq_false (by omega)
        have hnew : A ++ T ++ ⟨#[10]⟩ = txt ((lns L).take (i + 1)).flatten := by
          rw [hfl, hx2, hA, eT, show (⟨#[10]⟩ : ByteArray) = txt [10] from rfl, txt_append, txt_append, List.append_assoc]
        have HLI2 := Lib.hid hli
        have HG := Lib.hid hg
        have HNEW := Lib.hid hnew
        have b0 : (0 : Int) ≤ (i : Int) := by omega
        have b1 : (i : Int) < 601 := by omega
        have TS := Lib.hid hTs
        clear hk hA hlt hn hx hxL hAl hin hfl hli h10 ha eT hTs hx2 hg hnew hi
        go_wp2_with fail
        go_at_call 17
        (with_reducible refine HLI2.out.mono ?_)
        rintro e w5 ⟨rfl, hb5⟩
        have HK5 := Lib.hid (HKR.out.later K hb5)
        clear hb5
        go_wp2_with fail
        go_loop [17] (fun kv => ∃ k : Nat, kv = .int .i64 (k : Int) ∧ k ≤ T.size) (fun kv => T.size - (intOf kv).toNat)
        case atStart => exact ⟨0, rfl, Nat.zero_le _⟩
        case round =>
          obtain ⟨k, rfl, hk⟩ := hrel
          by_cases hkl : k < T.size
          · have e1 : decide (k < T.size) = true := decide_eq_true hkl
            have e2 : decide ((k : Int) < (T.size : Int)) = true := decide_eq_true (by omega)
            have e3 : (0 : Int) ≤ (k : Int) := by omega
            have e4 : (k : Int) < (T.size : Int) := by omega
            have e5 := HG.out k hkl
            have e6 : (k : Int) < 601 := by have := TS.out; omega
            have HKL := Lib.hid hkl
            clear hk
            go_wp2_with fail
            go_round
            case rel => exact ⟨k + 1, by go_num, HKL.out⟩
            case measure => have := HKL.out; simp [intOf]; omega
          · have e1 : decide (k < T.size) = false := decide_eq_false hkl
            have e2 : decide ((k : Int) < (T.size : Int)) = false := decide_eq_false (by omega)
            clear hk hkl
            go_wp2_with fail
            go_roundw
            case rel => exact ⟨i + 1, A ++ T ++ ⟨#[10]⟩, rfl, by go_num, HI.out, HNEW.out, HK5.out⟩
            case measure => have := HI.out; simp [intOf]; omega
      · have ha : lineAns L (i : Int) = (x, false, 0) := by
          unfold lineAns
          rw [if_pos (by omega), Int.toNat_natCast, hx]
          simp only
          rw [if_neg h10]
        have hil := lns_last L i x hx h10
        rw [← HNN.out] at hil
        obtain ⟨T, eT⟩ : ∃ T, T = txt x := ⟨_, rfl⟩
        have hTs : T.size ≤ 600 := by rw [eT, size_txt]; omega
        have hg : ∀ (k : Nat) (h : k < T.size), (((T[k]'h).toNat : Int) == 10) = false := fun k h => by
          have h1 := txt_get eT k h
          have hne : x ≠ [] := by intro h0; rw [h0] at h1; cases h1
          have h2 : T[k]'h ≠ 10 := by
            have hm := List.mem_of_getElem? h1
            rw [← List.dropLast_concat_getLast hne] at hm
            rcases List.mem_append.1 hm with hm | hm
            · exact hin _ hm
            · rw [List.mem_singleton] at hm
              intro h3
              rw [List.getLast?_eq_some_getLast hne, ← hm, h3] at h10
              exact h10 rfl
          have h3 : (T[k]'h).toNat ≠ 10 := fun h => h2 (UInt8.toNat_inj.1 h)
          exact beq_eq_false_iff_ne.2 (by omega)
        unfold LineIs at hli
        rw [ha] at hli
        simp only [← eT] at hli
        have f1 : (9223372036854775807 < A.size + T.size) = False := eq_false (by omega)
        have q1 : IntKind.i64.wrap ((n : Int) - 1) = (i : Int) := by rw [show (n : Int) - 1 = (i : Int) by omega]; exact IntWalk.i64_in _ (by omega)
        have hnew : A ++ T = txt ((lns L).take (i + 1)).flatten := by
          rw [hfl, hA, eT, txt_append]
        have HLI2 := Lib.hid hli
        have HG := Lib.hid hg
        have HNEW := Lib.hid hnew
        have b0 : (0 : Int) ≤ (i : Int) := by omega
        have b1 : (i : Int) < 601 := by omega
        have TS := Lib.hid hTs
        clear hk hA hlt hn hx hxL hAl hin hfl hli h10 ha eT hTs hil hg hnew hi
        go_wp2_with fail
        go_at_call 17
        (with_reducible refine HLI2.out.mono ?_)
        rintro e w5 ⟨rfl, hb5⟩
        have HK5 := Lib.hid (HKR.out.later K hb5)
        clear hb5
        go_wp2_with fail
        go_loop [17] (fun kv => ∃ k : Nat, kv = .int .i64 (k : Int) ∧ k ≤ T.size) (fun kv => T.size - (intOf kv).toNat)
        case atStart => exact ⟨0, rfl, Nat.zero_le _⟩
        case round =>
          obtain ⟨k, rfl, hk⟩ := hrel
          by_cases hkl : k < T.size
          · have e1 : decide (k < T.size) = true := decide_eq_true hkl
            have e2 : decide ((k : Int) < (T.size : Int)) = true := decide_eq_true (by omega)
            have e3 : (0 : Int) ≤ (k : Int) := by omega
            have e4 : (k : Int) < (T.size : Int) := by omega
            have e5 := HG.out k hkl
            have e6 : (k : Int) < 601 := by have := TS.out; omega
            have HKL := Lib.hid hkl
            clear hk
            go_wp2_with fail
            go_round
            case rel => exact ⟨k + 1, by go_num, HKL.out⟩
            case measure => have := HKL.out; simp [intOf]; omega
          · have e1 : decide (k < T.size) = false := decide_eq_false hkl
            have e2 : decide ((k : Int) < (T.size : Int)) = false := decide_eq_false (by omega)
            clear hk hkl
            go_wp2_with fail
            go_roundw
            case rel => exact ⟨i + 1, A ++ T, rfl, by go_num, HI.out, HNEW.out, HK5.out⟩
            case measure => have := HI.out; simp [intOf]; omega
    · have hin : i = n := by omega
      have c1 : decide (i < n) = false := decide_eq_false hlt
      have c1i : decide ((i : Int) < (n : Int)) = false := decide_eq_false (by omega)
      have hAs : A = s ++ t := by rw [hA, hin, HNN.out, List.take_length, HST.out]
      have hli := HLI.out wr p n HNB.out (hk.is (by simp))
      unfold LineIs at hli
      rw [HLE.out] at hli
      have HLI2 := Lib.hid hli
      have hz : ((n : Int) == 0) = ((s ++ t).toList == []) := by
        have hl : (s ++ t).toList.length = s.size + t.size := by
          rw [ByteArray.toList_eq, Array.length_toList]
          exact ByteArray.size_append
        by_cases h0 : n = 0
        · have h1 := HZ.out.1 h0
          have h2 : (s ++ t).toList = [] := List.eq_nil_iff_length_eq_zero.2 (by omega)
          rw [h2, h0]; rfl
        · have h1 : ¬ (s.size + t.size = 0) := fun h => h0 (HZ.out.2 h)
          have h2 : (s ++ t).toList ≠ [] := fun h => by
            rw [h] at hl
            exact h1 hl.symm
          rw [beq_eq_false_iff_ne.2 h2]
          exact beq_eq_false_iff_ne.2 (by omega)
      have s1 : ((s ++ t).toList == (s ++ t).toList) = true := by simp
      subst hAs
      clear hk hA hlt hin hli hi
      go_wp2_with fail
      go_at_call 17
      (with_reducible refine HLI2.out.mono ?_)
      rintro e w5 ⟨rfl, hb5⟩
      have HK5 := Lib.hid (HKR.out.later K hb5)
      clear hb5
      go_wp2_with fail
      go_at_call 15
      (with_reducible refine (HAL.out _).mono ?_)
      rintro e w6 ⟨rfl, hb6⟩
      have HK6 := Lib.hid (HK5.out.later K hb6)
      clear hb6
      go_wp2_with fail
      go_ret
      exact ⟨rfl, HK6.out.1⟩
end
end Go.Proofs.Ytfibclaojdoonaa
