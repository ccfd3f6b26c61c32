/-
  The walk of RecordByte: it returns true and touches nothing that was there. Condition: the bytes lie in memory.
-/
import Derived.Test.YthdenpdhckichaaAlive
import Derived.Laws.BitsAllLaws
namespace Go.Proofs.Ythdenpdhckichaa
open Go.RowKit Go.Deep

set_option maxRecDepth 100000 in
set_option maxHeartbeats 2000000 in
theorem byte_pos (A : Option Addr) (l : List UInt8) (cap : Nat) (z : Int) (y : UInt8) (a : Nat) (w : World) (hA : BytesAt w A l) (hr : RecOk l) (hy : y ≠ 0) (hz : z = (a : Int)) (hwf : (Lit.int .i64 z).wf = true) :
    Calls Try.prog 7 #[.slice A l.length cap, .int .i64 z, .int .u8 y.toNat] w fun e w' => e = .returned (.bool true) ∧ Below w.heap.size w w' := by
  have hw := bounds_i64 hwf
  have hr' := hr
  obtain ⟨r1, r2⟩ := hr
  obtain ⟨n, en⟩ : ∃ n, n = l.length := ⟨_, rfl⟩
  have EN := Lib.hid en
  have hw1 := wrap_ok A l cap w hA hr'
  rw [← en] at r1 r2 hw1 ⊢
  have HW1 := Lib.hid hw1
  have HR := Lib.hid hr'
  have HY := Lib.hid hy
  have hb2 : ((y.toNat : Int) == 0) = false := by
    have : y.toNat ≠ 0 := fun e => hy (UInt8.toNat_inj.1 e)
    simp; omega
  clear hA en hw1 hr' hy hwf
  go_enter Try.func7, Try.ntmps7
  go_wp2_with fail
  go_at_call 10
  (with_reducible refine (HW1.out).mono ?_)
  rintro e W2 ⟨v, rfl, g, m, c, rfl, hm, hown, hb⟩
  have HM : Hid (m = 7 + n) := Lib.hid (by rw [hm, length_frame, EN.out])
  have hm7 : 8 ≤ m := by have := HM.out; omega
  have hmx : m ≤ 4103 := by have := HM.out; omega
  obtain ⟨k, ek⟩ : ∃ k, k = a % m := ⟨_, rfl⟩
  have hk : k < m := by rw [ek]; exact Nat.mod_lt _ (by omega)
  obtain ⟨x, hx⟩ : ∃ x, (frame l)[k]? = some x := getElem?_frame_lt l k (by have := HM.out; have := EN.out; omega)
  have hcell := hown.cell k x hx
  have hfr := World.ownsRow.frozenAt hown.1 k
  have hst := hown.stored k (x ^^^ y)
  rw [UInt8.toNat_xor] at hst
  obtain ⟨W3, e3⟩ : ∃ W3, W3 = W2.setCell ⟨g, k, none⟩ (.int .u8 (x.toNat ^^^ y.toNat : Nat)) := ⟨_, rfl⟩
  have hb3 : Below w.heap.size w W3 := by rw [e3]; exact hb.setCell hown.ge _
  rw [← e3] at hst
  have HE3 := Lib.hid e3
  have hxor := xor_u8 x y
  rw [UInt8.toNat_xor] at hxor
  have hmod : (a : Int).tmod (m : Int) = (k : Int) := by rw [ek]; rfl
  have hn1 : ¬ ((m : Int) = 0) := by omega
  have hb1 : ((m : Int) == 0) = false := by simp; omega
  obtain ⟨o1, o2⟩ := take_off l HR.out k x (x ^^^ y) hx (xor_ne x y HY.out)
  have HO1 := Lib.hid o1
  have HO2 := Lib.hid o2
  obtain ⟨f, ef⟩ : ∃ f, f = (frame l).set k (x ^^^ y) := ⟨_, rfl⟩
  rw [← ef] at HO1 HO2 hst
  have hfl : f.length = m := by rw [ef, List.length_set, ← hm]
  have HB3 := Lib.hid hb3
  have htok : takeE f = 0 → Calls Try.prog 13 #[.slice (some ⟨g, 0, none⟩) m c] W3 (TakeNew f W3) := fun h => by
    have := take_ok (some ⟨g, 0, none⟩) f c W3 hst.bytes (by rw [hfl]; exact hst.le) hst.cap h
    rw [hfl] at this
    exact this
  have htno : takeE f ≠ 0 → Calls Try.prog 13 #[.slice (some ⟨g, 0, none⟩) m c] W3 (TakeNone f W3) := fun h => by
    have := take_no (some ⟨g, 0, none⟩) f c W3 hst.bytes (by rw [hfl]; exact hst.le) hst.cap h
    rw [hfl] at this
    exact this
  have HTOK := Lib.hid htok
  have HTNO := Lib.hid htno
  have HRL : Hid (takeE f = 0 → (rcd f).length = ln f) := Lib.hid fun h => (taken_is h).2.2.1
  clear e3 hown hm hb ek hx hst hb3 o1 o2 ef hfl htok htno
  go_wp2_with fail
  rw [← HE3.out]
  by_cases he : takeE f = 0
  · obtain ⟨hk12, hlt⟩ := HO1.out he
    have hrl := HRL.out he
    have HT := Lib.hid (HTOK.out he)
    have hlt7 : 7 + (ln f : Int) < (m : Int) := by have := HM.out; have := EN.out; omega
    obtain ⟨j, ej⟩ : ∃ j, j = ln f := ⟨_, rfl⟩
    have HJ : Hid (∀ i : Nat, i = (rcd f).length → (i : Int) < (n : Int)) := Lib.hid fun i hi => by have := EN.out; omega
    have HJ2 := Lib.hid ej
    rw [← ej] at hlt7
    clear he hlt hrl ej
    go_at_call 13
    (with_reducible refine (HT.out).mono ?_)
    rintro e W4 ⟨v, rfl, g4, n4, c4, rfl, hn4, hown4, hb4⟩
    have hn4' := HJ.out n4 hn4
    have HBE := Lib.hid (HB3.out.trans (hb4.mono HB3.out.size))
    rw [← HJ2.out]
    clear hn4 hown4 hb4
    rcases hk12 with hk12 | hk12
    · have k1 : ((k : Int) == 1) = true := by simp; omega
      clear hk12
      go_wp2_with fail
      go_at_call 9
      (with_reducible refine (alive_any _).mono ?_)
      rintro e w' ⟨rfl, hb4⟩
      have HB4 := Lib.hid (HBE.out.trans (hb4.mono HBE.out.size))
      clear hb4
      go_wp2_with fail
      go_ret
      exact ⟨rfl, HB4.out⟩
    · have k1 : ((k : Int) == 1) = false := by simp; omega
      have k2 : ((k : Int) == 2) = true := by simp; omega
      clear hk12
      go_wp2_with fail
      go_at_call 9
      (with_reducible refine (alive_any _).mono ?_)
      rintro e w' ⟨rfl, hb4⟩
      have HB4 := Lib.hid (HBE.out.trans (hb4.mono HBE.out.size))
      clear hb4
      go_wp2_with fail
      go_ret
      exact ⟨rfl, HB4.out⟩
  · have HT := Lib.hid (HTNO.out he)
    have he' := takeE_le f
    have HO2' := HO2.out
    unfold TakeNone at HT
    obtain ⟨t, et⟩ : ∃ t, t = takeE f := ⟨_, rfl⟩
    rw [← et] at HT he he' HO2'
    clear et HO1 HO2
    go_at_call 13
    (with_reducible refine (HT.out).mono ?_)
    rintro e W4 ⟨rfl, hb4⟩
    have HBE := Lib.hid (HB3.out.trans (hb4.mono HB3.out.size))
    clear hb4
    have t0 : ((t : Int) == 0) = false := by simp; omega
    rcases he' with he' | he' | he'
    · omega
    · have t1 : ((t : Int) == 41) = true := by simp; omega
      clear he he' HO2'
      go_wp2_with fail
      go_at_call 9
      (with_reducible refine (alive_any _).mono ?_)
      rintro e w' ⟨rfl, hb4⟩
      have HB4 := Lib.hid (HBE.out.trans (hb4.mono HBE.out.size))
      clear hb4
      go_wp2_with fail
      go_ret
      exact ⟨rfl, HB4.out⟩
    · have hk12 := HO2' he'
      have t1 : ((t : Int) == 41) = false := by simp; omega
      clear he he' HO2'
      rcases hk12 with hk12 | hk12
      · have k1 : ((k : Int) == 1) = true := by simp; omega
        clear hk12
        go_wp2_with fail
        go_at_call 9
        (with_reducible refine (alive_any _).mono ?_)
        rintro e w' ⟨rfl, hb4⟩
        have HB4 := Lib.hid (HBE.out.trans (hb4.mono HBE.out.size))
        clear hb4
        go_wp2_with fail
        go_ret
        exact ⟨rfl, HB4.out⟩
      · have k1 : ((k : Int) == 1) = false := by simp; omega
        have k2 : ((k : Int) == 2) = true := by simp; omega
        clear hk12
        go_wp2_with fail
        go_at_call 9
        (with_reducible refine (alive_any _).mono ?_)
        rintro e w' ⟨rfl, hb4⟩
        have HB4 := Lib.hid (HBE.out.trans (hb4.mono HBE.out.size))
        clear hb4
        go_wp2_with fail
        go_ret
        exact ⟨rfl, HB4.out⟩

set_option maxRecDepth 100000 in
set_option maxHeartbeats 2000000 in
theorem byte_neg (A : Option Addr) (l : List UInt8) (cap : Nat) (z : Int) (y : UInt8) (a : Nat) (w : World) (hA : BytesAt w A l) (hr : RecOk l) (hy : y ≠ 0) (hz : z < 0 ∧ -(z + 1) = (a : Int)) (hwf : (Lit.int .i64 z).wf = true) :
    Calls Try.prog 7 #[.slice A l.length cap, .int .i64 z, .int .u8 y.toNat] w fun e w' => e = .returned (.bool true) ∧ Below w.heap.size w w' := by
  obtain ⟨hz0, hz1⟩ := hz
  have hw := bounds_i64 hwf
  have hr' := hr
  obtain ⟨r1, r2⟩ := hr
  obtain ⟨n, en⟩ : ∃ n, n = l.length := ⟨_, rfl⟩
  have EN := Lib.hid en
  have hw1 := wrap_ok A l cap w hA hr'
  rw [← en] at r1 r2 hw1 ⊢
  have HW1 := Lib.hid hw1
  have HR := Lib.hid hr'
  have HY := Lib.hid hy
  have hb2 : ((y.toNat : Int) == 0) = false := by
    have : y.toNat ≠ 0 := fun e => hy (UInt8.toNat_inj.1 e)
    simp; omega
  clear hA en hw1 hr' hy hwf
  go_enter Try.func7, Try.ntmps7
  go_wp2_with fail
  go_at_call 10
  (with_reducible refine (HW1.out).mono ?_)
  rintro e W2 ⟨v, rfl, g, m, c, rfl, hm, hown, hb⟩
  have HM : Hid (m = 7 + n) := Lib.hid (by rw [hm, length_frame, EN.out])
  have hm7 : 8 ≤ m := by have := HM.out; omega
  have hmx : m ≤ 4103 := by have := HM.out; omega
  obtain ⟨k, ek⟩ : ∃ k, k = a % m := ⟨_, rfl⟩
  have hk : k < m := by rw [ek]; exact Nat.mod_lt _ (by omega)
  obtain ⟨x, hx⟩ : ∃ x, (frame l)[k]? = some x := getElem?_frame_lt l k (by have := HM.out; have := EN.out; omega)
  have hcell := hown.cell k x hx
  have hfr := World.ownsRow.frozenAt hown.1 k
  have hst := hown.stored k (x ^^^ y)
  rw [UInt8.toNat_xor] at hst
  obtain ⟨W3, e3⟩ : ∃ W3, W3 = W2.setCell ⟨g, k, none⟩ (.int .u8 (x.toNat ^^^ y.toNat : Nat)) := ⟨_, rfl⟩
  have hb3 : Below w.heap.size w W3 := by rw [e3]; exact hb.setCell hown.ge _
  rw [← e3] at hst
  have HE3 := Lib.hid e3
  have hxor := xor_u8 x y
  rw [UInt8.toNat_xor] at hxor
  have hmod : (a : Int).tmod (m : Int) = (k : Int) := by rw [ek]; rfl
  have hn1 : ¬ ((m : Int) = 0) := by omega
  have hb1 : ((m : Int) == 0) = false := by simp; omega
  obtain ⟨o1, o2⟩ := take_off l HR.out k x (x ^^^ y) hx (xor_ne x y HY.out)
  have HO1 := Lib.hid o1
  have HO2 := Lib.hid o2
  obtain ⟨f, ef⟩ : ∃ f, f = (frame l).set k (x ^^^ y) := ⟨_, rfl⟩
  rw [← ef] at HO1 HO2 hst
  have hfl : f.length = m := by rw [ef, List.length_set, ← hm]
  have HB3 := Lib.hid hb3
  have htok : takeE f = 0 → Calls Try.prog 13 #[.slice (some ⟨g, 0, none⟩) m c] W3 (TakeNew f W3) := fun h => by
    have := take_ok (some ⟨g, 0, none⟩) f c W3 hst.bytes (by rw [hfl]; exact hst.le) hst.cap h
    rw [hfl] at this
    exact this
  have htno : takeE f ≠ 0 → Calls Try.prog 13 #[.slice (some ⟨g, 0, none⟩) m c] W3 (TakeNone f W3) := fun h => by
    have := take_no (some ⟨g, 0, none⟩) f c W3 hst.bytes (by rw [hfl]; exact hst.le) hst.cap h
    rw [hfl] at this
    exact this
  have HTOK := Lib.hid htok
  have HTNO := Lib.hid htno
  have HRL : Hid (takeE f = 0 → (rcd f).length = ln f) := Lib.hid fun h => (taken_is h).2.2.1
  clear e3 hown hm hb ek hx hst hb3 o1 o2 ef hfl htok htno
  go_wp2_with fail
  rw [← HE3.out]
  by_cases he : takeE f = 0
  · obtain ⟨hk12, hlt⟩ := HO1.out he
    have hrl := HRL.out he
    have HT := Lib.hid (HTOK.out he)
    have hlt7 : 7 + (ln f : Int) < (m : Int) := by have := HM.out; have := EN.out; omega
    obtain ⟨j, ej⟩ : ∃ j, j = ln f := ⟨_, rfl⟩
    have HJ : Hid (∀ i : Nat, i = (rcd f).length → (i : Int) < (n : Int)) := Lib.hid fun i hi => by have := EN.out; omega
    have HJ2 := Lib.hid ej
    rw [← ej] at hlt7
    clear he hlt hrl ej
    go_at_call 13
    (with_reducible refine (HT.out).mono ?_)
    rintro e W4 ⟨v, rfl, g4, n4, c4, rfl, hn4, hown4, hb4⟩
    have hn4' := HJ.out n4 hn4
    have HBE := Lib.hid (HB3.out.trans (hb4.mono HB3.out.size))
    rw [← HJ2.out]
    clear hn4 hown4 hb4
    rcases hk12 with hk12 | hk12
    · have k1 : ((k : Int) == 1) = true := by simp; omega
      clear hk12
      go_wp2_with fail
      go_at_call 9
      (with_reducible refine (alive_any _).mono ?_)
      rintro e w' ⟨rfl, hb4⟩
      have HB4 := Lib.hid (HBE.out.trans (hb4.mono HBE.out.size))
      clear hb4
      go_wp2_with fail
      go_ret
      exact ⟨rfl, HB4.out⟩
    · have k1 : ((k : Int) == 1) = false := by simp; omega
      have k2 : ((k : Int) == 2) = true := by simp; omega
      clear hk12
      go_wp2_with fail
      go_at_call 9
      (with_reducible refine (alive_any _).mono ?_)
      rintro e w' ⟨rfl, hb4⟩
      have HB4 := Lib.hid (HBE.out.trans (hb4.mono HBE.out.size))
      clear hb4
      go_wp2_with fail
      go_ret
      exact ⟨rfl, HB4.out⟩
  · have HT := Lib.hid (HTNO.out he)
    have he' := takeE_le f
    have HO2' := HO2.out
    unfold TakeNone at HT
    obtain ⟨t, et⟩ : ∃ t, t = takeE f := ⟨_, rfl⟩
    rw [← et] at HT he he' HO2'
    clear et HO1 HO2
    go_at_call 13
    (with_reducible refine (HT.out).mono ?_)
    rintro e W4 ⟨rfl, hb4⟩
    have HBE := Lib.hid (HB3.out.trans (hb4.mono HB3.out.size))
    clear hb4
    have t0 : ((t : Int) == 0) = false := by simp; omega
    rcases he' with he' | he' | he'
    · omega
    · have t1 : ((t : Int) == 41) = true := by simp; omega
      clear he he' HO2'
      go_wp2_with fail
      go_at_call 9
      (with_reducible refine (alive_any _).mono ?_)
      rintro e w' ⟨rfl, hb4⟩
      have HB4 := Lib.hid (HBE.out.trans (hb4.mono HBE.out.size))
      clear hb4
      go_wp2_with fail
      go_ret
      exact ⟨rfl, HB4.out⟩
    · have hk12 := HO2' he'
      have t1 : ((t : Int) == 41) = false := by simp; omega
      clear he he' HO2'
      rcases hk12 with hk12 | hk12
      · have k1 : ((k : Int) == 1) = true := by simp; omega
        clear hk12
        go_wp2_with fail
        go_at_call 9
        (with_reducible refine (alive_any _).mono ?_)
        rintro e w' ⟨rfl, hb4⟩
        have HB4 := Lib.hid (HBE.out.trans (hb4.mono HBE.out.size))
        clear hb4
        go_wp2_with fail
        go_ret
        exact ⟨rfl, HB4.out⟩
      · have k1 : ((k : Int) == 1) = false := by simp; omega
        have k2 : ((k : Int) == 2) = true := by simp; omega
        clear hk12
        go_wp2_with fail
        go_at_call 9
        (with_reducible refine (alive_any _).mono ?_)
        rintro e w' ⟨rfl, hb4⟩
        have HB4 := Lib.hid (HBE.out.trans (hb4.mono HBE.out.size))
        clear hb4
        go_wp2_with fail
        go_ret
        exact ⟨rfl, HB4.out⟩

set_option maxHeartbeats 1000000 in
theorem byte_no (A : Option Addr) (l : List UInt8) (cap : Nat) (z : Int) (y : UInt8) (w : World) (hm : l.length ≤ maxLen) (hr : ¬ RecOk l) :
    Calls Try.prog 7 #[.slice A l.length cap, .int .i64 z, .int .u8 y.toNat] w fun e w' => e = .returned (.bool true) ∧ Below w.heap.size w w' := by
  have HW := Lib.hid (wrap_no A l cap w hm hr)
  clear hr hm
  go_enter Try.func7, Try.ntmps7
  go_wp2_with fail
  go_at_call 10
  (with_reducible refine (HW.out).mono ?_)
  rintro e w' ⟨rfl, rfl⟩
  have HBE := Lib.hid (Below.refl w.heap.size w)
  go_wp2_with fail
  go_at_call 9
  (with_reducible refine (alive_any _).mono ?_)
  rintro e w' ⟨rfl, hb4⟩
  have HB4 := Lib.hid (HBE.out.trans (hb4.mono HBE.out.size))
  clear hb4
  go_wp2_with fail
  go_ret
  exact ⟨rfl, HB4.out⟩
set_option maxHeartbeats 1000000 in
theorem byte_zero (A : Option Addr) (l : List UInt8) (cap : Nat) (z : Int) (w : World) (hA : BytesAt w A l) (hr : RecOk l) :
    Calls Try.prog 7 #[.slice A l.length cap, .int .i64 z, .int .u8 0] w fun e w' => e = .returned (.bool true) ∧ Below w.heap.size w w' := by
  have HW := Lib.hid (wrap_ok A l cap w hA hr)
  clear hr hA
  go_enter Try.func7, Try.ntmps7
  go_wp2_with fail
  go_at_call 10
  (with_reducible refine (HW.out).mono ?_)
  rintro e W2 ⟨v, rfl, g, m, c, rfl, hm, hown, hb⟩
  have HBE := Lib.hid hb
  clear hm hown hb
  go_wp2_with fail
  go_at_call 9
  (with_reducible refine (alive_any _).mono ?_)
  rintro e w' ⟨rfl, hb4⟩
  have HB4 := Lib.hid (HBE.out.trans (hb4.mono HBE.out.size))
  clear hb4
  go_wp2_with fail
  go_ret
  exact ⟨rfl, HB4.out⟩
theorem byte_any (A : Option Addr) (l : List UInt8) (cap : Nat) (z : Int) (y : UInt8) (w : World) (hA : BytesAt w A l) (hm : l.length ≤ maxLen) (hwf : (Lit.int .i64 z).wf = true) :
    Calls Try.prog 7 #[.slice A l.length cap, .int .i64 z, .int .u8 y.toNat] w fun e w' => e = .returned (.bool true) ∧ Below w.heap.size w w' := by
  by_cases hr : RecOk l
  · by_cases hy : y = 0
    · subst hy
      exact byte_zero A l cap z w hA hr
    · by_cases hz : 0 ≤ z
      · exact byte_pos A l cap z y z.toNat w hA hr hy (by omega) hwf
      · exact byte_neg A l cap z y (-z - 1).toNat w hA hr hy ⟨by omega, by omega⟩ hwf
  · exact byte_no A l cap z y w hm hr
end Go.Proofs.Ythdenpdhckichaa
