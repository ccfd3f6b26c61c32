/-
  The walk of RecordWraps: it returns true and touches nothing that was there. Condition: the bytes lie in memory.
-/
import Derived.Test.YthdenpdhckichaaAlive
namespace Go.Proofs.Ythdenpdhckichaa
open Go.RowKit Go.Deep

set_option maxRecDepth 100000 in
set_option maxHeartbeats 2000000 in
theorem wraps_in (A : Option Addr) (l : List UInt8) (cap : Nat) (w : World) (hA : BytesAt w A l) (la : l.length ≤ 9000) :
    Calls Try.prog 3 #[.slice A l.length cap] w fun e w' => e = .returned (.bool true) ∧ Below w.heap.size w w' := by
  have HA := Lib.hid hA
  obtain ⟨n, en⟩ : ∃ n, n = l.length := ⟨_, rfl⟩
  have EN := Lib.hid en
  rw [← en] at la ⊢
  have re := run_empty
  clear hA en
  go_enter Try.func3, Try.ntmps3
  go_wp2_with ((refine wpList_append_bytes (k := n) 16 (Own.start' _ _ rfl) (HA.out.alloc _) EN.out rfl rfl ?_ (by simp) ?_))
  · omega
  intro g1 c1 W1 hown1 hgr1 _
  have hb1 : Below w.heap.size w W1 := ((Below.refl _ w).alloc (Nat.le_refl _) _).grown hgr1 (by simp) (fun k hk => by injection hk with hk; omega)
  simp only [Nat.zero_add, List.nil_append] at hown1 ⊢
  have HO1 := Lib.hid hown1
  have HB1 := Lib.hid hb1
  clear hown1 hb1 hgr1
  by_cases hr : RecOk l
  · have hw1 := wrap_ok (some ⟨g1, 0, none⟩) l c1 W1 HO1.out.bytes hr
    rw [← EN.out] at hw1
    have HW1 := Lib.hid hw1
    have HR := Lib.hid hr
    clear hw1 hr
    go_wp2_with fail
    go_at_call 10
    (with_reducible refine (HW1.out).mono ?_)
    rintro e W2 ⟨v, rfl, g2, n2, c2, rfl, hn2, ho2, hb2⟩
    have hb2' : Below w.heap.size w W2 := HB1.out.trans (hb2.mono HB1.out.size)
    have hw2 := refWrap_ok A l cap W2 (HA.out.below hb2') HR.out
    rw [← EN.out] at hw2
    have HW2 := Lib.hid hw2
    have HN2 := Lib.hid hn2
    have HO2 := Lib.hid ho2
    have HB2 := Lib.hid hb2
    have HB2' := Lib.hid hb2'
    clear hw2 hn2 ho2 hb2 hb2'
    go_wp2_with fail
    go_at_call 11
    (with_reducible refine (HW2.out).mono ?_)
    rintro e W3 ⟨v, rfl, g3, n3, c3, rfl, hn3, ho3, hb3⟩
    have hb3' : Below w.heap.size w W3 := HB2'.out.trans (hb3.mono HB2'.out.size)
    have e32 : n3 = n2 := by rw [hn3, HN2.out]
    subst e32
    have HS1 := Lib.hid (same_any (some ⟨g2, 0, none⟩) (some ⟨g3, 0, none⟩) (frame l) c2 c3 n3 W3 (HO2.out.bytes.below hb3) ho3.bytes hn3)
    have HS2 := Lib.hid (same_any (some ⟨g1, 0, none⟩) A l c1 cap n W3 ((HO1.out.bytes.below HB2.out).below hb3) (HA.out.below hb3') EN.out)
    have HB3' := Lib.hid hb3'
    clear hn3 ho3 hb3 hb3'
    go_wp2_with fail
    go_at_call 12
    (with_reducible refine (HS1.out).mono ?_)
    rintro e w' ⟨rfl, rfl⟩
    go_wp2_with fail
    go_at_call 12
    (with_reducible refine (HS2.out).mono ?_)
    rintro e w' ⟨rfl, rfl⟩
    go_wp2_with fail
    go_at_call 9
    (with_reducible refine (alive_any _).mono ?_)
    rintro e w' ⟨rfl, hb4⟩
    have HB4 := Lib.hid (HB3'.out.trans (hb4.mono HB3'.out.size))
    clear hb4
    go_wp2_with fail
    go_ret
    exact ⟨rfl, HB4.out⟩
  · have hw1 := wrap_no (some ⟨g1, 0, none⟩) l c1 W1 (by rw [← EN.out]; unfold maxLen; omega) hr
    rw [← EN.out] at hw1
    have HW1 := Lib.hid hw1
    have hw2 := refWrap_no A l cap W1 (by rw [← EN.out]; unfold maxLen; omega) hr
    rw [← EN.out] at hw2
    have HW2 := Lib.hid hw2
    have HS1 := Lib.hid (same_any none none [] 0 0 0 W1 (BytesAt.none _ _) (BytesAt.none _ _) rfl)
    have HS2 := Lib.hid (same_any (some ⟨g1, 0, none⟩) A l c1 cap n W1 HO1.out.bytes (HA.out.below HB1.out) EN.out)
    clear hw1 hr hw2
    go_wp2_with fail
    go_at_call 10
    (with_reducible refine (HW1.out).mono ?_)
    rintro e w' ⟨rfl, rfl⟩
    go_wp2_with fail
    go_at_call 11
    (with_reducible refine (HW2.out).mono ?_)
    rintro e w' ⟨rfl, rfl⟩
    go_wp2_with fail
    go_at_call 12
    (with_reducible refine (HS1.out).mono ?_)
    rintro e w' ⟨rfl, rfl⟩
    go_wp2_with fail
    go_at_call 12
    (with_reducible refine (HS2.out).mono ?_)
    rintro e w' ⟨rfl, rfl⟩
    go_wp2_with fail
    go_at_call 9
    (with_reducible refine (alive_any _).mono ?_)
    rintro e w' ⟨rfl, hb4⟩
    have HB4 := Lib.hid (HB1.out.trans (hb4.mono HB1.out.size))
    clear hb4
    go_wp2_with fail
    go_ret
    exact ⟨rfl, HB4.out⟩

set_option maxHeartbeats 400000 in
theorem wraps_out (A : Option Addr) (l : List UInt8) (cap : Nat) (w : World) (hl : l.length ≤ maxLen) (h : 9000 < l.length) :
    Calls Try.prog 3 #[.slice A l.length cap] w fun e w' => e = .returned (.bool true) ∧ Below w.heap.size w w' := by
  unfold maxLen at hl
  go_enter Try.func3, Try.ntmps3
  go_wp2_with (go_at_call 9; (with_reducible refine (alive_any _).mono ?_); rintro e w' ⟨rfl, hb2⟩)
  go_ret
  exact ⟨rfl, hb2⟩

theorem wraps_any (A : Option Addr) (l : List UInt8) (cap : Nat) (w : World) (hA : BytesAt w A l) (la : l.length ≤ maxLen) :
    Calls Try.prog 3 #[.slice A l.length cap] w fun e w' => e = .returned (.bool true) ∧ Below w.heap.size w w' := by
  by_cases h : 9000 < l.length
  · exact wraps_out A l cap w la h
  · exact wraps_in A l cap w hA (by omega)
end Go.Proofs.Ythdenpdhckichaa
