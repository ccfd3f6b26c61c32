/-
  The walk of FletcherPieces: it returns true and touches nothing that was there. Condition: the bytes lie in memory.
-/
import Derived.Test.YtnlckhdfeefjlaaOne
import Derived.Laws.Shifts
namespace Go.Proofs.Ytnlckhdfeefjlaa
open Go.RowKit

theorem more_pair (s : Nat) (l : List UInt8) : ∃ x y, x < 65521 ∧ y < 65521 ∧ more s l = y * 65536 + x := by
  have h := fwalk_lt l _ (fbegin_lt s)
  exact ⟨_, _, h.1, h.2, rfl⟩
theorem more_same (s : Nat) (l : List UInt8) : more (more s l) [] = more s l := by
  rw [more_append, List.append_nil]

theorem more_own (s : Nat) (hs : s < 4294967296) {w : World} {base g n c : Nat} {l : List UInt8} (h : Own w base g n c l) (hn : n ≤ 1099511627776) :
    Calls Try.prog 10 #[.int .u32 s, .slice (some ⟨g, 0, none⟩) n c] w fun e w' => e = .returned (.int .u32 (more s l)) ∧ w = w' := by
  have := more_any s hs (some ⟨g, 0, none⟩) l c w h.bytes (by rw [h.2]; unfold maxLen; omega)
  rw [h.2] at this
  exact this
theorem more_none (s : Nat) (hs : s < 4294967296) (w : World) :
    Calls Try.prog 10 #[.int .u32 s, .slice none 0 0] w fun e w' => e = .returned (.int .u32 (more s [])) ∧ w = w' :=
  more_any s hs none [] 0 w (BytesAt.none w _) (by decide)

set_option maxRecDepth 100000 in
set_option maxHeartbeats 1000000 in
theorem pieces_in (A B C : Option Addr) (a b c : List UInt8) (ca cb cc : Nat) (w : World) (hA : BytesAt w A a) (hB : BytesAt w B b) (hC : BytesAt w C c) (la : a.length ≤ 5000) (lb : b.length ≤ 5000) (lc : c.length ≤ 5000) :
    Calls Try.prog 4 #[.slice A a.length ca, .slice B b.length cb, .slice C c.length cc] w fun e w' => e = .returned (.bool true) ∧ Below w.heap.size w w' := by
  have hb0 : Below w.heap.size w (w.alloc (.cells #[] 5)) := (Below.refl _ _).alloc (Nat.le_refl _) _
  have h1 := run_append_bytes (Own.start w) A a ca (hA.below hb0) (by omega) (by simp)
  simp only [Nat.zero_add, List.nil_append] at h1
  obtain ⟨g1, c1, W1, hap1, hown1, hgr1⟩ := h1
  have hb1 : Below w.heap.size w W1 := hb0.grown hgr1 (by simp) (fun k hk => by injection hk with hk; omega)
  obtain ⟨g2, c2, W2, hap2, hown2, hgr2⟩ := run_append_bytes hown1 B b cb (hB.below hb1) (by omega) hb1.size
  have hb2 : Below w.heap.size w W2 := hb1.grown hgr2 hb1.size (fun k hk => by injection hk with hk; have := hown1.ge; omega)
  obtain ⟨g3, c3, W3, hap3, hown3, hgr3⟩ := run_append_bytes hown2 C c cc (hC.below hb2) (by omega) hb2.size
  have hb3 : Below w.heap.size w W3 := hb2.grown hgr3 hb2.size (fun k hk => by injection hk with hk; have := hown2.ge; omega)
  obtain ⟨s1, es1⟩ : ∃ s, s = more 1 a := ⟨_, rfl⟩
  obtain ⟨s2, es2⟩ : ∃ s, s = more s1 b := ⟨_, rfl⟩
  obtain ⟨s3, es3⟩ : ∃ s, s = more s2 c := ⟨_, rfl⟩
  have t1 : s1 < 4294967296 := by rw [es1]; exact more_lt _ _
  have t2 : s2 < 4294967296 := by rw [es2]; exact more_lt _ _
  have t3 : s3 < 4294967296 := by rw [es3]; exact more_lt _ _
  have H1 := Lib.hid fun w2 (hb : Below w.heap.size w w2) => sum_any A a ca w2 (hA.below hb) (by unfold maxLen; omega)
  rw [← es1] at H1
  have H2 := Lib.hid fun w2 (hb : Below w.heap.size w w2) => more_any s1 t1 B b cb w2 (hB.below hb) (by unfold maxLen; omega)
  rw [← es2] at H2
  have H3 := Lib.hid fun w2 (hb : Below w.heap.size w w2) => more_any s2 t2 C c cc w2 (hC.below hb) (by unfold maxLen; omega)
  rw [← es3] at H3
  have H4 := Lib.hid fun w2 (hb : Below W3.heap.size W3 w2) => sum_own (hown3.below hb (Nat.le_refl _)) (by omega)
  rw [← more_append, ← more_append, ← es1, ← es2, ← es3] at H4
  have H5 := Lib.hid fun w2 => more_none s3 t3 w2
  have e5 : more s3 [] = s3 := by rw [es3]; exact more_same _ _
  rw [e5] at H5
  obtain ⟨x, y, hx, hy, exy⟩ := more_pair s2 c
  rw [← es3] at exy
  have HA1 := Lib.hid hap1
  have HA2 := Lib.hid hap2
  have HA3 := Lib.hid hap3
  have HB3 := Lib.hid hb3
  have re := run_empty
  have d1 : Op.shift .shr .u32 (s3 : Int) .u64 16 = pure (.int .u32 (y : Int)) := by
    have e0 := shift_shr_any .u32 .u64 (s3 : Int) 16 (by decide)
    have e1 : (s3 : Int) / 2 ^ min (16 : Int).toNat IntKind.u32.bits = (y : Int) := by
      rw [show (2 : Int) ^ min (16 : Int).toNat IntKind.u32.bits = 65536 from by decide]; omega
    rw [e0, e1]
  have d2 : ((s3 : Int) % 65536) = (x : Int) := by omega
  have d3 : True → (y : Int) < 65521 := fun _ => by omega
  have d4 : True → (x : Int) < 65521 := fun _ => by omega
  have D1 := Lib.hid d1
  have D2 := Lib.hid d2
  clear hx hy d1 d2
  clear hap1 hap2 hap3 hown1 hown2 hown3 hgr1 hgr2 hgr3 hb0 hb1 hb2 hb3 es1 es2 es3 exy e5 hA hB hC
  go_enter Try.func4, Try.ntmps4
  go_wp2_with (first | refine wpList_append_to 25 HA1.out rfl rfl ?_ | refine wpList_append_to 27 HA2.out rfl rfl ?_ | refine wpList_append_to 29 HA3.out rfl rfl ?_)
  go_at_call 8
  (with_reducible refine (H1.out _ HB3.out).mono ?_)
  rintro e w' ⟨rfl, rfl⟩
  go_wp2_with fail
  go_at_call 10
  (with_reducible refine (H2.out _ HB3.out).mono ?_)
  rintro e w' ⟨rfl, rfl⟩
  go_wp2_with fail
  go_at_call 10
  (with_reducible refine (H3.out _ HB3.out).mono ?_)
  rintro e w' ⟨rfl, rfl⟩
  go_wp2_with fail
  go_at_call 7
  (with_reducible refine (alive_any _).mono ?_)
  rintro e w' ⟨rfl, hb4⟩
  have hb5 := HB3.out.trans (hb4.mono HB3.out.size)
  go_wp2_with fail
  go_at_call 8
  (with_reducible refine (H4.out _ hb4).mono ?_)
  rintro e w' ⟨rfl, rfl⟩
  go_wp2_with fail
  go_at_call 10
  (with_reducible refine (H5.out _).mono ?_)
  rintro e w' ⟨rfl, rfl⟩
  have E1 := D1.out
  have E2 := D2.out
  clear D1 D2
  clear H5 H4 H3 H2 H1 HA1 HA2 HA3 la lb lc
  go_wp2_with fail
  go_ret
  exact ⟨rfl, hb5⟩

set_option maxHeartbeats 400000 in
theorem pieces_out (A B C : Option Addr) (a b c : List UInt8) (ca cb cc : Nat) (w : World) (la : a.length ≤ maxLen) (lb : b.length ≤ maxLen) (lc : c.length ≤ maxLen) (h : 5000 < a.length ∨ 5000 < b.length ∨ 5000 < c.length) :
    Calls Try.prog 4 #[.slice A a.length ca, .slice B b.length cb, .slice C c.length cc] w fun e w' => e = .returned (.bool true) ∧ Below w.heap.size w w' := by
  unfold maxLen at la lb lc
  by_cases h1 : 5000 < a.length
  · clear h
    go_enter Try.func4, Try.ntmps4
    go_wp2_with (go_at_call 7; (with_reducible refine (alive_any _).mono ?_); rintro e w' ⟨rfl, hb2⟩)
    go_ret
    exact ⟨rfl, hb2⟩
  · by_cases h2 : 5000 < b.length
    · clear h
      go_enter Try.func4, Try.ntmps4
      go_wp2_with (go_at_call 7; (with_reducible refine (alive_any _).mono ?_); rintro e w' ⟨rfl, hb2⟩)
      go_ret
      exact ⟨rfl, hb2⟩
    · have h3 : 5000 < c.length := by omega
      clear h
      go_enter Try.func4, Try.ntmps4
      go_wp2_with (go_at_call 7; (with_reducible refine (alive_any _).mono ?_); rintro e w' ⟨rfl, hb2⟩)
      go_ret
      exact ⟨rfl, hb2⟩

theorem pieces_any (A : Option Addr) (a : List UInt8) (ca : Nat) (B : Option Addr) (b : List UInt8) (cb : Nat) (C : Option Addr) (c : List UInt8) (cc : Nat) (w : World) (hA : BytesAt w A a) (hB : BytesAt w B b) (hC : BytesAt w C c) (la : a.length ≤ maxLen) (lb : b.length ≤ maxLen) (lc : c.length ≤ maxLen) :
    Calls Try.prog 4 #[.slice A a.length ca, .slice B b.length cb, .slice C c.length cc] w fun e w' => e = .returned (.bool true) ∧ Below w.heap.size w w' := by
  by_cases h : 5000 < a.length ∨ 5000 < b.length ∨ 5000 < c.length
  · exact pieces_out A B C a b c ca cb cc w la lb lc h
  · exact pieces_in A B C a b c ca cb cc w hA hB hC (by omega) (by omega) (by omega)
end Go.Proofs.Ytnlckhdfeefjlaa
