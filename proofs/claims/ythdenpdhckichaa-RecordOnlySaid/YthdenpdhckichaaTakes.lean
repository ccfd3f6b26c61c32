/-
  The walk of RecordTakes: it returns true and touches nothing that was there. Condition: the bytes lie in memory.
-/
import Derived.Test.YthdenpdhckichaaScan
namespace Go.Proofs.Ythdenpdhckichaa
open Go.RowKit Go.Deep

def tk (b : List UInt8) : List UInt8 := if takeE b = 0 then rcd b else []
def tn (b : List UInt8) : Int := if takeE b = 0 then 7 + (ln b : Int) else 0
/-- What a Take answers, whichever it is. -/
def TakeAny (b : List UInt8) (w : World) (e : Ending) (w' : World) : Prop :=
  ∃ A k c, e = .returned (.tuple #[.slice A k c, .int .i64 (tn b), .int .i64 (takeE b : Int)]) ∧ k = (tk b).length ∧ BytesAt w' A (tk b) ∧ Below w.heap.size w w'
theorem take_any (A : Option Addr) (b : List UInt8) (cap k : Nat) (w : World) (hA : BytesAt w A b) (hk : k = b.length) (hl : k ≤ cap) (hm : cap ≤ maxLen) :
    Calls Try.prog 13 #[.slice A k cap] w (TakeAny b w) := by
  subst hk
  by_cases h : takeE b = 0
  · refine (take_ok A b cap w hA hl hm h).mono ?_
    rintro e w' ⟨v, rfl, g, n, c, rfl, hn, ho, hb⟩
    unfold TakeAny tn tk
    rw [if_pos h, if_pos h, h]
    exact ⟨_, _, _, rfl, hn, ho.bytes, hb⟩
  · refine (take_no A b cap w hA hl hm h).mono ?_
    rintro e w' ⟨rfl, hb⟩
    unfold TakeAny tn tk
    rw [if_neg h, if_neg h]
    exact ⟨_, _, _, rfl, rfl, BytesAt.none _ _, hb⟩
theorem refTake_any (A : Option Addr) (b : List UInt8) (cap k : Nat) (w : World) (hA : BytesAt w A b) (hk : k = b.length) (hl : k ≤ cap) (hm : cap ≤ maxLen) :
    Calls Try.prog 14 #[.slice A k cap] w (TakeAny b w) := by
  subst hk
  by_cases h : takeE b = 0
  · refine (refTake_ok A b cap w hA hl hm h).mono ?_
    rintro e w' ⟨v, rfl, g, n, c, rfl, hn, ho, hb⟩
    unfold TakeAny tn tk
    rw [if_pos h, if_pos h, h]
    exact ⟨_, _, _, rfl, hn, ho.bytes, hb⟩
  · refine (refTake_no A b cap w hA hl hm h).mono ?_
    rintro e w' ⟨rfl, hb⟩
    unfold TakeAny tn tk
    rw [if_neg h, if_neg h]
    exact ⟨_, _, _, rfl, rfl, BytesAt.none _ _, hb⟩

def ScanAny (b : List UInt8) (w : World) (e : Ending) (w' : World) : Prop :=
  ∃ (A : Option Addr) (k c : Nat) (ls : List (List UInt8)) (n : Nat), e = .returned (.tuple #[.slice A k c, .int .i64 (n : Int)]) ∧ k = ls.length ∧ IsScan b ls n ∧ RowsAt w' A ls ∧ Below w.heap.size w w'
theorem scanAny_of {b : List UInt8} {w : World} {e : Ending} {w' : World} (h : ScanNew b w e w') : ScanAny b w e w' := by
  obtain ⟨v, ls, n, rfl, hs, hl, hb⟩ := h
  obtain ⟨A, c, rfl, hr⟩ := hl.rows
  exact ⟨A, _, c, ls, n, rfl, rfl, hs, hr, hb⟩

set_option maxRecDepth 100000 in
set_option maxHeartbeats 2000000 in
theorem takes_in (A : Option Addr) (l : List UInt8) (cap : Nat) (w : World) (hA : BytesAt w A l) (hl : l.length ≤ cap) (hm : cap ≤ maxLen) (la : l.length ≤ 9000) :
    Calls Try.prog 4 #[.slice A l.length cap] w fun e w' => e = .returned (.bool true) ∧ Below w.heap.size w w' := by
  have HA := Lib.hid hA
  have HL := Lib.hid hl
  have HM := Lib.hid hm
  obtain ⟨n, en⟩ : ∃ n, n = l.length := ⟨_, rfl⟩
  have EN := Lib.hid en
  rw [← en] at la ⊢
  have re := run_empty
  clear hA en hl hm
  go_enter Try.func4, Try.ntmps4
  go_wp2_with ((refine wpList_append_bytes (k := n) 23 (Own.start' _ _ rfl) (HA.out.alloc _) EN.out rfl rfl ?_ (by simp) ?_))
  · omega
  intro g1 c1 W1 hown1 hgr1 _
  have hb1 : Below w.heap.size w W1 := ((Below.refl _ w).alloc (Nat.le_refl _) _).grown hgr1 (by simp) (fun k hk => by injection hk with hk; omega)
  simp only [Nat.zero_add, List.nil_append] at hown1 ⊢
  have HO1 := Lib.hid hown1
  have HB1 := Lib.hid hb1
  clear hown1 hb1 hgr1
  go_wp2_with ((refine wpList_append_lits 25 [77] HO1.out rfl rfl rfl rfl ?_ HB1.out.size ?_))
  · omega
  intro g2 c2 W2 hown2 hgr2 _
  have hb2 : Below w.heap.size w W2 := (HB1.out.alloc HB1.out.size _).grown hgr2 (by have := HB1.out.size; simp; omega) (fun k hk => by injection hk with hk; have := HO1.out.ge; omega)
  have hc2 := hown2.le
  have hc2m := hown2.cap
  have hs1 : ∀ W, (Instr.sliceAt 22 (.slice (some ⟨g2, 0, none⟩) (n + 1) c2) none (some (.int .i64 (n : Int))) none).run Try.prog W = .ok (.slice (some ⟨g2, 0, none⟩) n c2) W := fun W => u8_slice_to (by omega) hc2m
  have hs2 : ∀ W, (Instr.sliceAt 22 (.slice (some ⟨g2, 0, none⟩) n c2) none (some (.int .i64 ((n : Int) + 1))) none).run Try.prog W = .ok (.slice (some ⟨g2, 0, none⟩) (n + 1) c2) W := fun W => u8_slice_to (k := n + 1) (by omega) hc2m
  have hcap77 : BytesAt W2 (some ⟨g2, 0, none⟩) (l ++ [77]) := hown2.bytes
  have hown : BytesAt W2 (some ⟨g2, 0, none⟩) l := fun i b hi => hcap77 i b (by rw [List.getElem?_append_left (List.getElem?_eq_some_iff.1 hi).1]; exact hi)
  have H77 := Lib.hid hcap77
  have HO2 := Lib.hid hown
  have HB2 := Lib.hid hb2
  have HC2 := Lib.hid hc2
  have HC2M := Lib.hid hc2m
  have HT1 := Lib.hid (take_any (some ⟨g2, 0, none⟩) l c2 n W2 hown EN.out (by omega) hc2m)
  clear hcap77 hown hown2 hgr2 hb2 hc2 hc2m
  go_wp2_with fail
  go_at_call 13
  (with_reducible refine (HT1.out).mono ?_)
  rintro e W3 ⟨A3, k3, c3, rfl, hk3, hx3, hb3⟩
  have hb3' : Below w.heap.size w W3 := HB2.out.trans (hb3.mono HB2.out.size)
  have HT2 := Lib.hid (refTake_any A l cap n W3 (HA.out.below hb3') EN.out (by rw [EN.out]; exact HL.out) HM.out)
  have HK3 := Lib.hid hk3
  have HX3 := Lib.hid hx3
  have HB3 := Lib.hid hb3
  have HB3' := Lib.hid hb3'
  clear hk3 hx3 hb3 hb3'
  go_wp2_with fail
  go_at_call 14
  (with_reducible refine (HT2.out).mono ?_)
  rintro e W4 ⟨A4, k4, c4, rfl, hk4, hx4, hb4⟩
  have e43 : k4 = k3 := by rw [hk4, HK3.out]
  subst e43
  have hb24 : Below W2.heap.size W2 W4 := HB3.out.trans (hb4.mono HB3.out.size)
  have hb4' : Below w.heap.size w W4 := HB3'.out.trans (hb4.mono HB3'.out.size)
  have hsc := (scan_any (some ⟨g2, 0, none⟩) l c2 W4 (HO2.out.below hb24) (by rw [← EN.out]; have := HC2.out; omega) HC2M.out (by rw [← EN.out]; omega) (scan_count (by rw [← EN.out]; omega))).mono fun e w' h => scanAny_of h
  rw [← EN.out] at hsc
  have HSC := Lib.hid hsc
  have HX3' := Lib.hid (HX3.out.below hb4)
  have HX4 := Lib.hid hx4
  have HB24 := Lib.hid hb24
  have HB4' := Lib.hid hb4'
  clear hk4 hx4 hb4 hb24 hb4' hsc
  go_wp2_with fail
  go_at_call 15
  (with_reducible refine (HSC.out).mono ?_)
  rintro e W5 ⟨A5, k5, c5, ls, m, rfl, hk5, hs5, hr5, hb5⟩
  have hb5' : Below w.heap.size w W5 := HB4'.out.trans (hb5.mono HB4'.out.size)
  have hsc := (refScan_any A l cap W5 (HA.out.below hb5') HL.out HM.out (by rw [← EN.out]; omega) (scan_count (by rw [← EN.out]; omega))).mono fun e w' h => scanAny_of h
  rw [← EN.out] at hsc
  have HSC2 := Lib.hid hsc
  have HK5 := Lib.hid hk5
  have HS5 := Lib.hid hs5
  have HR5 := Lib.hid hr5
  have HB5 := Lib.hid hb5
  have HB5' := Lib.hid hb5'
  clear hk5 hs5 hr5 hb5 hb5' hsc
  go_wp2_with fail
  go_at_call 16
  (with_reducible refine (HSC2.out).mono ?_)
  rintro e W6 ⟨A6, k6, c6, ls6, m6, rfl, hk6, hs6, hr6, hb6⟩
  obtain ⟨els, em⟩ := HS5.out.unique hs6
  subst els em
  have e65 : k6 = k5 := by rw [hk6, HK5.out]
  subst e65
  have hb46 : Below W4.heap.size W4 W6 := HB5.out.trans (hb6.mono HB5.out.size)
  have hb26 : Below W2.heap.size W2 W6 := HB24.out.trans (hb46.mono HB24.out.size)
  have hb6' : Below w.heap.size w W6 := HB5'.out.trans (hb6.mono HB5'.out.size)
  have hlsm : ls.length ≤ maxLen := by
    have h1 := length_frames ls
    have h2 := hs6.1
    have h3 := congrArg List.length hs6.2.1
    rw [List.length_take] at h3
    have := EN.out
    unfold maxLen
    omega
  have HS1 := Lib.hid (same_any A3 A4 (tk l) c3 c4 k4 W6 (HX3'.out.below hb46) (HX4.out.below hb46) HK3.out)
  have HS2 := Lib.hid (same04_any A5 A6 ls c5 c6 k6 W6 (HR5.out.below hb6) hr6 hk6 (by rw [hk6]; exact hlsm))
  have HB26 := Lib.hid hb26
  have HB6' := Lib.hid hb6'
  clear hk6 hs6 hr6 hb6 hb46 hb26 hb6' hlsm
  go_wp2_with fail
  go_at_call 12
  (with_reducible refine (HS1.out).mono ?_)
  rintro e w' ⟨rfl, rfl⟩
  go_wp2_with fail
  go_at_call 17
  (with_reducible refine (HS2.out).mono ?_)
  rintro e w' ⟨rfl, N, rfl⟩
  have HS3 := Lib.hid (same_any (some ⟨g2, 0, none⟩) A l c2 cap n (W6.drewN N) ((HO2.out.below HB26.out).drewN N) ((HA.out.below HB6'.out).drewN N) EN.out)
  go_wp2_with fail
  go_at_call 12
  (with_reducible refine (HS3.out).mono ?_)
  rintro e w' ⟨rfl, rfl⟩
  go_wp2_with fail
  go_at_call 9
  (with_reducible refine (alive_any _).mono ?_)
  rintro e W7 ⟨rfl, hb7⟩
  have hb7' := below_of_drewN hb7
  have hcell : W7.cell? ⟨g2, n, none⟩ = some (.int .u8 77) := by
    obtain ⟨g', o', e', hc⟩ := (H77.out.below (HB26.out.trans (hb7'.mono HB26.out.size))) n 77 (by rw [List.getElem?_append_right (by rw [← EN.out]; omega), ← EN.out]; simp)
    cases e'
    rw [Nat.zero_add] at hc
    exact hc
  have HB7 := Lib.hid (HB6'.out.trans (hb7'.mono HB6'.out.size))
  clear hb7 hb7'
  go_wp2_with fail
  go_ret
  exact ⟨rfl, HB7.out⟩

set_option maxHeartbeats 400000 in
theorem takes_out (A : Option Addr) (l : List UInt8) (cap : Nat) (w : World) (hl : l.length ≤ maxLen) (h : 9000 < l.length) :
    Calls Try.prog 4 #[.slice A l.length cap] w fun e w' => e = .returned (.bool true) ∧ Below w.heap.size w w' := by
  unfold maxLen at hl
  go_enter Try.func4, Try.ntmps4
  go_wp2_with (go_at_call 9; (with_reducible refine (alive_any _).mono ?_); rintro e w' ⟨rfl, hb2⟩)
  go_ret
  exact ⟨rfl, hb2⟩

theorem takes_any (A : Option Addr) (l : List UInt8) (cap : Nat) (w : World) (hA : BytesAt w A l) (hl : l.length ≤ cap) (hm : cap ≤ maxLen) :
    Calls Try.prog 4 #[.slice A l.length cap] w fun e w' => e = .returned (.bool true) ∧ Below w.heap.size w w' := by
  by_cases h : 9000 < l.length
  · exact takes_out A l cap w (by omega) h
  · exact takes_in A l cap w hA hl hm (by omega)
end Go.Proofs.Ythdenpdhckichaa
