/-
  The document's answer's region, byte by byte. Condition: its disk lies in memory.
-/
import Derived.Test.YtpfdlcogldbocaaList
import Derived.Test.YtpfdlcogldbocaaDk
namespace Go.Proofs.Ytpfdlcogldbocaa
open Go.RowKit Go.Deep Go.Maps

/-- Bytes in new memory, by a value alone. -/
def NewV (l : List UInt8) (w : World) (e : Ending) (w' : World) : Prop := ∃ v, e = .returned v ∧ OwnV w' w.heap.size v l ∧ Below w.heap.size w w'

set_option maxRecDepth 100000 in
set_option maxHeartbeats 2000000 in
theorem jref_bytes {w : World} {Z : Nat → Prop} {q n : Nat} {F : Int → Option (List UInt8)} {cs : List CallM} (h : Rk w Z q n F cs) (hF : Blocks32 F) (hok : ∀ c ∈ cs, c.ok) (hc : cs.length ≤ 1073741824) (hn : n ≤ 65536) (f k : Nat) (hfk : f + k ≤ n) :
    Calls Try.prog 39 #[.pointer (some ⟨q, 0, none⟩), .int .i64 (f : Int), .int .i64 (k : Int)] w (NewV (reg (con F cs) f k) w) := by
  have HR := Lib.hid h
  have HRD := Lib.hid fun (wr : World) (hb : Below w.heap.size w wr) (i : Nat) (hi : i < k) => rk_read (h.below hb) hF hok hc hn ((f + i : Nat) : Int) (by omega) (by omega)
  have H32 := Lib.hid (con_all32 hF hok)
  clear h hok hF
  go_enter Try.func39, Try.ntmps39
  go_wp2_with fail
  go_loopw [7, 8] (fun v i wr => ∃ j : Nat, i = .int .i64 (j : Int) ∧ j ≤ k ∧ OwnV wr w.heap.size v (reg (con F cs) f j) ∧ Below w.heap.size w wr) (fun _ i _ => k - (intOf i).toNat)
  case atStart => exact ⟨0, rfl, Nat.zero_le _, OwnV.nil _ _, Below.refl _ _⟩
  case round =>
    obtain ⟨j, rfl, hj, hown, hb⟩ := hrel
    have HO := Lib.hid hown
    have HB := Lib.hid hb
    have hl := length_reg H32.out f j
    by_cases hjk : j < k
    · have hrd := HRD.out wr hb j hjk
      rw [Int.natCast_add] at hrd
      have HRR := Lib.hid hrd
      have h32 : (con F cs ((f + j : Nat) : Int)).length = 32 := H32.out _
      have HL := Lib.hid hl
      have HL2 := Lib.hid h32
      have hfi : (f : Int) + (j : Int) ≤ 65536 := by omega
      have hfi0 : 0 ≤ (f : Int) + (j : Int) := by omega
      clear hown hb hl hrd h32
      go_wp2_with fail
      go_at_call 28
      (with_reducible refine (HRR.out).mono ?_)
      rintro e w' ⟨A, cap, rfl, hbA, hcap, hAZ, rfl⟩
      rw [← Int.natCast_add] at hbA
      have HBA := Lib.hid hbA
      clear hbA hAZ hcap
      go_wp2_with ((refine wpList_append_ownv (k := 32) 26 HO.out HBA.out HL2.out.symm ?_ rfl rfl ?_ HB.out.size ?_))
      · rw [HL2.out]; omega
      · rw [HL.out, HL2.out]; omega
      intro v5 W5 hown5 hgr5 hge5
      have hb5 : Below w.heap.size w W5 := HB.out.grown hgr5 HB.out.size hge5
      have HO5 := Lib.hid hown5
      have HB5 := Lib.hid hb5
      clear hown5 hgr5 hge5 hb5
      go_wp2_with fail
      go_roundw
      case rel => exact ⟨j + 1, by go_num, by omega, HO5.out, HB5.out⟩
      case measure => simp [intOf]; omega
    · have hjk2 : j = k := by omega
      clear hown hb hl
      go_wp2_with fail
      go_ret
      exact ⟨_, rfl, hjk2 ▸ HO.out, HB.out⟩
end Go.Proofs.Ytpfdlcogldbocaa
