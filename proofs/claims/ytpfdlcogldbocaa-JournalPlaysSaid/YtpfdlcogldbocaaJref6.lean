/-
  The document's answer's Append of no record, and of one that has no room. Condition: its journal lies in memory.
-/
import Derived.Test.YtpfdlcogldbocaaJref5
namespace Go.Proofs.Ytpfdlcogldbocaa
open Go.RowKit Go.Deep Go.Maps

theorem jref_append_no (v : Value) (A : Option Addr) (l : List UInt8) (cap : Nat) (w : World) (hm : l.length ≤ maxLen) (hr : ¬ RecOk l) :
    Calls Try.prog 13 #[v, .slice A l.length cap] w fun e w' => e = .returned (.int .i64 1) ∧ w = w' := by
  have HW := Lib.hid (refWrap_no A l cap w hm hr)
  clear hm hr
  go_enter Try.func13, Try.ntmps13
  go_wp2_with fail
  go_at_call 43
  (with_reducible refine (HW.out).mono ?_)
  rintro e w' ⟨rfl, rfl⟩
  go_wp2_with fail
  go_ret
  exact ⟨rfl, rfl⟩

set_option maxRecDepth 100000 in
set_option maxHeartbeats 2000000 in
theorem jref_append_full {w : World} {Y : Nat → Prop} {pj q f k : Nat} {ls : List (List UInt8)} (hj : RefJ w Y pj q f k ls) (hk : k ≤ 65536) (A : Option Addr) (l : List UInt8) (cap : Nat) (hA : BytesAt w A l) (hr : RecOk l) (hu : (frames ls).length ≤ 32 * k) (hroom : 32 * k < (frames ls).length + (frame l).length) :
    Calls Try.prog 13 #[.pointer (some ⟨pj, 0, none⟩), .slice A l.length cap] w fun e w' => e = .returned (.int .i64 51) ∧ Below w.heap.size w w' := by
  have HW := Lib.hid (refWrap_ok A l cap w hA hr)
  obtain ⟨u, eu⟩ : ∃ u, u = (frames ls).length := ⟨_, rfl⟩
  have HUS := Lib.hid fun (W : World) (hb : Below w.heap.size w W) => jref_used (hj.below hb) (by omega)
  have HRO := Lib.hid fun (W : World) (hb : Below w.heap.size w W) => jref_room (hj.below hb) hu hk
  rw [← eu] at HUS HRO hroom hu
  have HROOM := Lib.hid hroom
  have HL := Lib.hid (length_frame l)
  have HREC := Lib.hid hr
  have hub : u ≤ 2097152 := by omega
  clear hA hr hj eu hroom
  go_enter Try.func13, Try.ntmps13
  go_wp2_with fail
  go_at_call 43
  (with_reducible refine (HW.out).mono ?_)
  rintro e W1 ⟨v, rfl, g1, m, c1, rfl, hm, hown1, hb1⟩
  have hmm : m ≤ 8192 := by rw [hm, HL.out]; have := HREC.out.2; omega
  have hfit : 32 * (k : Int) - (u : Int) < (m : Int) := by have := HROOM.out; omega
  have HB1 := Lib.hid hb1
  have HUS1 := Lib.hid (HUS.out W1 hb1)
  have HRO1 := Lib.hid (HRO.out W1 hb1)
  clear hm hown1 hb1
  go_wp2_with fail
  go_at_call 44
  (with_reducible refine (HUS1.out).mono ?_)
  rintro e w' ⟨rfl, rfl⟩
  go_wp2_with fail
  go_at_call 26
  (with_reducible refine (HRO1.out).mono ?_)
  rintro e w' ⟨rfl, N, rfl⟩
  go_wp2_with fail
  go_ret
  exact ⟨rfl, ⟨HB1.out.os, HB1.out.tape, HB1.out.output, HB1.out.size, HB1.out.block⟩⟩
end Go.Proofs.Ytpfdlcogldbocaa
