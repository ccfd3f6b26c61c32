/-
  The walks of the live question and of JournalNil: each returns true, and what was in memory stays as it was. Conditions: none beyond the kinds of the arguments.
-/
import Derived.Test.YtpfdlcogldbocaaJp7
namespace Go.Proofs.Ytpfdlcogldbocaa
open Go.RowKit Go.Deep Go.Maps

def TrueIs (w : World) (e : Ending) (w' : World) : Prop := e = .returned (.bool true) ∧ Below w.heap.size w w'

theorem con_none (x : Int) : con (fun _ => none) [] x = zero32 := rfl
theorem reg_none (f : Nat) : ∀ k, reg (con (fun _ => none) []) f k = List.replicate (32 * k) 0
  | 0 => rfl
  | k + 1 => by
    unfold reg
    rw [reg_none f k, con_none, show zero32 = List.replicate 32 0 from rfl, List.replicate_append_replicate, show 32 * k + 32 = 32 * (k + 1) by omega]
theorem scan_noughts {n u : Nat} {ls : List (List UInt8)} (h : IsScan (List.replicate n 0) ls u) : ls = [] ∧ u = 0 :=
  h.unique (⟨Nat.zero_le _, by simp [frames], (fun l hl => by cases hl), (by rw [List.drop_zero]; exact takeE_noughts n)⟩ : IsScan (List.replicate n 0) [] 0)
theorem turned_new {Z : Nat → Prop} {w0 w w' : World} (hb : Below w0.heap.size w0 w) (hZ : ∀ j, Z j → w0.heap.size ≤ j) (ht : Turned Z w w') : Below w0.heap.size w0 w' :=
  ⟨ht.os.trans hb.os, ht.tape.trans hb.tape, ht.output.trans hb.output, Nat.le_trans hb.size ht.size, fun k hk => (ht.block k (Nat.lt_of_lt_of_le hk hb.size) (fun hz => by have := hZ k hz; omega)).trans (hb.block k hk)⟩

set_option maxRecDepth 100000 in
set_option maxHeartbeats 1000000 in
/-- THE LIVE QUESTION. -/
theorem alive_any (w : World) : Calls Try.prog 9 #[] w (TrueIs w) := by
  have hn := dk_new 4 w (by omega) (by omega)
  rw [show ((4 : Nat) : Int) = 4 from rfl] at hn
  have HN := Lib.hid hn
  clear hn
  go_enter Try.func9, Try.ntmps9
  go_wp2_with fail
  go_at_call 7
  (with_reducible refine HN.out.mono ?_)
  rintro e w1 ⟨p, rfl, hd1, hb1⟩
  have ho := js_open hd1 1 2 (by omega) (by omega) (by omega) (by omega)
  rw [show ((1 : Nat) : Int) = 1 from rfl, show ((2 : Nat) : Int) = 2 from rfl] at ho
  have HO := Lib.hid ho
  have HB1 := Lib.hid hb1
  clear ho hd1 hb1
  go_wp2_with fail
  go_at_call 10
  (with_reducible refine HO.out.mono ?_)
  rintro e w2 ⟨pj, g, Z2, ls, u, rfl, hs2, hj2, hn2, hz2, ht2⟩
  rw [reg_none] at hs2
  obtain ⟨rfl, rfl⟩ := scan_noughts hs2
  have hb2 : Below w.heap.size w w2 := turned_new HB1.out (fun j hj => hj.1) ht2
  have hA : BytesAt (w2.alloc (.cells #[.int .u8 104, .int .u8 105] 5 (2, 3))) (some ⟨w2.heap.size, 0, none⟩) [104, 105] := BytesAt.lit rfl
  have hap := js_append (hj2.below ((Below.refl _ _).alloc (Nat.le_refl _) (.cells #[.int .u8 104, .int .u8 105] 5 (2, 3)))) (by omega) (by omega) (by omega) _ [104, 105] 2 hA ⟨by decide, by decide⟩ (by rw [length_frame]; simp [frames])
  rw [show ([104, 105] : List UInt8).length = 2 from rfl] at hap
  have HAP := Lib.hid hap
  have HB2 := Lib.hid hb2
  have HN2 : Hid (w1.heap.size ≤ pj ∧ w1.heap.size ≤ g ∧ (∀ j, Z2 j → w.heap.size ≤ j) ∧ w.heap.size ≤ w1.heap.size) := Lib.hid ⟨hn2.1, hn2.2, fun j hj => (hz2 j hj).elim (fun h => h.1) (fun h => Nat.le_trans HB1.out.size h), HB1.out.size⟩
  clear hap hs2 hj2 hn2 hz2 ht2 hb2 hA
  have hcv := Go.Joins.run_convert_bytes_const_at (P := Try.prog) w2 39 5 #[.int .u8 104, .int .u8 105] 2 2 w2.heap.size rfl Try.underlying39 Try.underlying5
  rw [show ((#[.int .u8 104, .int .u8 105] : Array Value).size, (#[.int .u8 104, .int .u8 105] : Array Value).size + 1) = (2, 3) from rfl] at hcv
  go_wp2_with fail
  go_at_call 12
  (with_reducible refine HAP.out.mono ?_)
  rintro e w3 ⟨rfl, Z3, hj3, hz3, ht3⟩
  have hb3 : Below w.heap.size w w3 := turned_new (HB2.out.alloc HB2.out.size _) (fun j hj => by
    have h := HN2.out
    rcases hj with hj | hj | hj
    · exact h.2.2.1 j hj
    · omega
    · omega) ht3
  have hro := js_room hj3 (by omega)
  rw [show 32 * ((2 : Nat) : Int) - ((frames ([] ++ [[104, 105]])).length : Int) = 55 from rfl] at hro
  have hre : ∀ N, Calls Try.prog 24 #[.pointer (some ⟨pj, 0, none⟩)] (w3.drewN N) (RecsAns [[104, 105]] (w3.drewN N)) := fun N => js_records (hj3.below (below_drewN _ _ N)) (by omega)
  have HRO := Lib.hid hro
  have HRE := Lib.hid hre
  have HB3 := Lib.hid hb3
  clear hj3 hz3 ht3 hb3 hro hre
  go_wp2_with fail
  go_at_call 25
  (with_reducible refine HRO.out.mono ?_)
  rintro e w4 ⟨rfl, N, rfl⟩
  go_wp2_with fail
  go_at_call 24
  (with_reducible refine (HRE.out N).mono ?_)
  rintro e w5 ⟨v5, rfl, hl5, hb5⟩
  obtain ⟨A5, c5, rfl, _⟩ := hl5.rows
  have HB5 : Hid (Below w.heap.size w w5) := Lib.hid ((HB3.out.trans ((below_drewN w3.heap.size w3 N).mono HB3.out.size)).trans (hb5.mono HB3.out.size))
  clear hl5 hb5
  go_wp2_with fail
  go_ret
  exact ⟨rfl, HB5.out⟩

set_option maxRecDepth 100000 in
set_option maxHeartbeats 1000000 in
theorem nil_any (v : Value) (a b : Int) (w : World) : Calls Try.prog 5 #[v, .agg #[.int .i64 a, .int .i64 b]] w (TrueIs w) := by
  have HA := Lib.hid alive_any
  go_enter Try.func5, Try.ntmps5
  go_wp2_with fail
  go_at_call 10
  (with_reducible refine (jp_open_nil _ _ _).mono ?_)
  rintro e w' ⟨rfl, rfl⟩
  go_wp2_with fail
  go_at_call 9
  (with_reducible refine (HA.out _).mono ?_)
  rintro e w2 ⟨rfl, hb2⟩
  have HB2 := Lib.hid hb2
  clear hb2
  go_wp2_with (first
    | (go_at_call 12; refine (jp_nil_append _ _).mono ?_; rintro e w' ⟨rfl, rfl⟩)
    | (go_at_call 14; refine (jp_nil_sync _).mono ?_; rintro e w' ⟨rfl, rfl⟩)
    | (go_at_call 24; refine (jp_nil_records _).mono ?_; rintro e w' ⟨rfl, rfl⟩)
    | (go_at_call 25; refine (jp_nil_room _).mono ?_; rintro e w' ⟨rfl, rfl⟩)
    | (go_at_call 21; refine (jp_nil_clear _).mono ?_; rintro e w' ⟨rfl, rfl⟩))
  go_ret
  exact ⟨rfl, ((Below.refl _ _).alloc (Nat.le_refl _) _).trans (HB2.out.mono (by simp))⟩
end Go.Proofs.Ytpfdlcogldbocaa
