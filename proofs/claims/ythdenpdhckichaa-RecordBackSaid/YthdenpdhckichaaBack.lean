/-
  The walk of RecordBack: it returns true and touches nothing that was there. Condition: the bytes lie in memory.
-/
import Derived.Test.YthdenpdhckichaaAlive
namespace Go.Proofs.Ythdenpdhckichaa
open Go.RowKit Go.Deep

set_option maxHeartbeats 1000000 in
theorem back_no (A B : Option Addr) (l r : List UInt8) (cap cb : Nat) (w : World) (hm : l.length ≤ maxLen) (hr : ¬ RecOk l) :
    Calls Try.prog 5 #[.slice A l.length cap, .slice B r.length cb] w fun e w' => e = .returned (.bool true) ∧ Below w.heap.size w w' := by
  have HW := Lib.hid (wrap_no A l cap w hm hr)
  clear hr hm
  go_enter Try.func5, Try.ntmps5
  go_wp2_with fail
  go_at_call 10
  (with_reducible refine (HW.out).mono ?_)
  rintro e w' ⟨rfl, rfl⟩
  go_wp2_with fail
  go_at_call 9
  (with_reducible refine (alive_any _).mono ?_)
  rintro e w' ⟨rfl, hb4⟩
  have HB4 := Lib.hid hb4
  clear hb4
  go_wp2_with fail
  go_ret
  exact ⟨rfl, HB4.out⟩

set_option maxHeartbeats 1000000 in
theorem back_far (A B : Option Addr) (l r : List UInt8) (cap cb : Nat) (w : World) (hA : BytesAt w A l) (hr : RecOk l) (_hq : r.length ≤ maxLen) (hf : 100 < r.length) :
    Calls Try.prog 5 #[.slice A l.length cap, .slice B r.length cb] w fun e w' => e = .returned (.bool true) ∧ Below w.heap.size w w' := by
  have HW := Lib.hid (wrap_ok A l cap w hA hr)
  have hf1 : (100 : Int) < (r.length : Int) := by omega
  unfold maxLen at _hq
  clear hr hA
  go_enter Try.func5, Try.ntmps5
  go_wp2_with fail
  go_at_call 10
  (with_reducible refine (HW.out).mono ?_)
  rintro e W2 ⟨v, rfl, g, m, c, rfl, hm, hown, hb⟩
  have HB := Lib.hid hb
  clear hm hown hb
  go_wp2_with fail
  go_at_call 9
  (with_reducible refine (alive_any _).mono ?_)
  rintro e w' ⟨rfl, hb4⟩
  have HB4 := Lib.hid (HB.out.trans (hb4.mono HB.out.size))
  clear hb4
  go_wp2_with fail
  go_ret
  exact ⟨rfl, HB4.out⟩

set_option maxRecDepth 100000 in
set_option maxHeartbeats 2000000 in
theorem back_in (A B : Option Addr) (l r : List UInt8) (cap cb : Nat) (w : World) (hA : BytesAt w A l) (hB : BytesAt w B r) (hr : RecOk l) (hf : r.length ≤ 100) :
    Calls Try.prog 5 #[.slice A l.length cap, .slice B r.length cb] w fun e w' => e = .returned (.bool true) ∧ Below w.heap.size w w' := by
  obtain ⟨r1, r2⟩ := id hr
  obtain ⟨n, en⟩ : ∃ n, n = l.length := ⟨_, rfl⟩
  obtain ⟨q, eq⟩ : ∃ q, q = r.length := ⟨_, rfl⟩
  have hw1 := wrap_ok A l cap w hA hr
  rw [← en] at r1 r2 hw1 ⊢
  rw [← eq] at hf ⊢
  have HW1 := Lib.hid hw1
  have EN := Lib.hid en
  have EQ := Lib.hid eq
  have HR := Lib.hid hr
  have HA := Lib.hid hA
  have HB := Lib.hid hB
  have re := run_empty
  clear en eq hw1 hr hA hB
  go_enter Try.func5, Try.ntmps5
  go_wp2_with fail
  go_at_call 10
  (with_reducible refine (HW1.out).mono ?_)
  rintro e W1 ⟨v, rfl, g, m, c, rfl, hm, hown, hb1⟩
  have HM : Hid (m = 7 + n) := Lib.hid (by rw [hm, length_frame, EN.out])
  have HM2 := Lib.hid hm
  have hm7 : 8 ≤ m := by have := HM.out; omega
  have hmx : m ≤ 4103 := by have := HM.out; omega
  have hcle := hown.le
  have hcm := hown.cap
  unfold maxLen at hcm
  have HO := Lib.hid hown
  have HB1 := Lib.hid hb1
  clear hm hown hb1
  go_wp2_with ((refine wpList_append_bytes (k := m) 44 (Own.start' _ _ rfl) (HO.out.bytes.alloc _) HM2.out rfl rfl ?_ (by simp) ?_))
  · omega
  intro g2 c2 W2 hown2 hgr2 _
  have hb2 : Below W1.heap.size W1 W2 := ((Below.refl _ W1).alloc (Nat.le_refl _) _).grown hgr2 (by simp) (fun k hk => by injection hk with hk; omega)
  simp only [Nat.zero_add, List.nil_append] at hown2 ⊢
  have HO2 := Lib.hid hown2
  have HB2 := Lib.hid hb2
  clear hown2 hb2 hgr2
  go_wp2_with ((refine wpList_append_bytes (k := q) 46 HO2.out (HB.out.below (HB1.out.trans (HB2.out.mono HB1.out.size))) EQ.out rfl rfl ?_ HB2.out.size ?_))
  · omega
  intro g3 c3 W3 hown3 hgr3 _
  have hb3 : Below W1.heap.size W1 W3 := HB2.out.grown hgr3 HB2.out.size (fun k hk => by injection hk with hk; have := HO2.out.ge; omega)
  obtain ⟨t1, t2, t3⟩ := take_frame l r HR.out
  have hlen : (frame l ++ r).length = m + q := by rw [List.length_append, ← HM2.out, ← EQ.out]
  have htk := take_ok (some ⟨g3, 0, none⟩) (frame l ++ r) c3 W3 hown3.bytes (by rw [hlen]; exact hown3.le) hown3.cap t1
  unfold TakeNew at htk
  rw [hlen, t2, t3, ← EN.out] at htk
  have HTK := Lib.hid htk
  have HB3 := Lib.hid hb3
  clear hown3 hgr3 hb3 t1 t2 t3 hlen htk
  go_wp2_with fail
  go_at_call 13
  (with_reducible refine (HTK.out).mono ?_)
  rintro e W4 ⟨v, rfl, g4, n4, c4, rfl, hn4, hown4, hb4⟩
  have e4 : n4 = n := by rw [hn4, EN.out]
  subst e4
  have hb4' : Below W1.heap.size W1 W4 := HB3.out.trans (hb4.mono HB3.out.size)
  have hbw : Below w.heap.size w W4 := HB1.out.trans (hb4'.mono HB1.out.size)
  have HS := Lib.hid (same_any (some ⟨g4, 0, none⟩) A l c4 cap n4 W4 hown4.bytes (HA.out.below hbw) hn4)
  have HBw := Lib.hid hbw
  have HF4 := Lib.hid (HO.out.bytes.below hb4')
  have hne : ((7 + (n4 : Int)) != (m : Int)) = false := by have := HM.out; simp; omega
  clear hn4 hown4 hb4 hb4' hbw
  go_wp2_with fail
  go_at_call 12
  (with_reducible refine (HS.out).mono ?_)
  rintro e w' ⟨rfl, rfl⟩
  go_wp2_with fail
  clear hne
  go_loopw [11] (fun i wr => ∃ k : Nat, i = .int .i64 k ∧ k ≤ m ∧ Below w.heap.size w wr ∧ BytesAt wr (some ⟨g, 0, none⟩) (frame l)) (fun i _ => m - (intOf i).toNat)
  case atStart => exact ⟨0, rfl, Nat.zero_le _, HBw.out, HF4.out⟩
  case round =>
    obtain ⟨k, rfl, hk, hb, hF⟩ := hrel
    have HB5 := Lib.hid hb
    have HF5 := Lib.hid hF
    clear hb hF
    by_cases hkm : k < m
    · by_cases h12 : 12 < (k : Int) ∧ (k : Int) < (m : Int) - 3
      · obtain ⟨h12a, h12b⟩ := h12
        go_wp2_with fail
        go_roundw
        case rel => exact ⟨k + 1, by go_num, by omega, HB5.out, HF5.out⟩
        case measure => simp [intOf]; omega
      · have hs : ∀ W, (Instr.sliceAt 22 (.slice (some ⟨g, 0, none⟩) m c) none (some (.int .i64 (k : Int))) none).run Try.prog W = .ok (.slice (some ⟨g, 0, none⟩) k c) W := fun W => u8_slice_to (by omega) (by unfold maxLen; omega)
        have hlen : ((frame l).take k).length = k := by rw [List.length_take, ← HM2.out]; omega
        have h42 := take_piece l HR.out k (by rw [← HM2.out]; exact hkm)
        have htk := take_no (some ⟨g, 0, none⟩) ((frame l).take k) c wr (HF5.out.take k) (by rw [hlen]; omega) (by unfold maxLen; omega) (by omega)
        unfold TakeNone at htk
        rw [hlen, h42] at htk
        have HTK2 := Lib.hid htk
        have hg : (decide (12 < (k : Int)) && decide ((k : Int) < (m : Int) - 3)) = false := by simp; omega
        clear hlen h42 htk h12
        by_cases h13 : 12 < (k : Int)
        · have h14 : ¬ (k : Int) < (m : Int) - 3 := by simp [h13] at hg; omega
          clear hg
          go_wp2_with fail
          go_at_call 13
          (with_reducible refine (HTK2.out).mono ?_)
          rintro e W6 ⟨rfl, hb6⟩
          have HB6 := Lib.hid hb6
          clear hb6
          go_wp2_with fail
          go_roundw
          case rel => exact ⟨k + 1, by go_num, by omega, HB5.out.trans (HB6.out.mono HB5.out.size), HF5.out.below HB6.out⟩
          case measure => simp [intOf]; omega
        · clear hg
          go_wp2_with fail
          go_at_call 13
          (with_reducible refine (HTK2.out).mono ?_)
          rintro e W6 ⟨rfl, hb6⟩
          have HB6 := Lib.hid hb6
          clear hb6
          go_wp2_with fail
          go_roundw
          case rel => exact ⟨k + 1, by go_num, by omega, HB5.out.trans (HB6.out.mono HB5.out.size), HF5.out.below HB6.out⟩
          case measure => simp [intOf]; omega
    · go_wp2_with fail
      go_at_call 9
      (with_reducible refine (alive_any _).mono ?_)
      rintro e w' ⟨rfl, hb7⟩
      have HB7 := Lib.hid (HB5.out.trans (hb7.mono HB5.out.size))
      clear hb7
      go_wp2_with fail
      go_ret
      exact ⟨rfl, HB7.out⟩

theorem back_any (A : Option Addr) (l : List UInt8) (cap : Nat) (B : Option Addr) (r : List UInt8) (cb : Nat) (w : World) (hA : BytesAt w A l) (hB : BytesAt w B r) (hm : l.length ≤ maxLen) (hm2 : r.length ≤ maxLen) :
    Calls Try.prog 5 #[.slice A l.length cap, .slice B r.length cb] w fun e w' => e = .returned (.bool true) ∧ Below w.heap.size w w' := by
  by_cases hr : RecOk l
  · by_cases hf : 100 < r.length
    · exact back_far A B l r cap cb w hA hr hm2 hf
    · exact back_in A B l r cap cb w hA hB hr (by omega)
  · exact back_no A B l r cap cb w hm hr
end Go.Proofs.Ythdenpdhckichaa
