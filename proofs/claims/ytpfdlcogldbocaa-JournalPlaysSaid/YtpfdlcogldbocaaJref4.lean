/-
  The document's answer's Open of no region, and Clear. Condition: its disk and its journal lie in memory.
-/
import Derived.Test.YtpfdlcogldbocaaJref3
namespace Go.Proofs.Ytpfdlcogldbocaa
open Go.RowKit Go.Deep Go.Maps

def NoRegion (n : Nat) (fi si : Int) : Prop := si < 1 ∨ fi < 0 ∨ (n : Int) ≤ fi ∨ (n : Int) - fi < si
theorem jref_open_no {w : World} {Z : Nat → Prop} {q n : Nat} {F : Int → Option (List UInt8)} {cs : List CallM} (h : Rk w Z q n F cs) (hn : n ≤ 65536) (fi si : Int) (hf : (Lit.int .i64 fi).wf = true) (hs : (Lit.int .i64 si).wf = true) (hno : NoRegion n fi si) :
    Calls Try.prog 11 #[.pointer (some ⟨q, 0, none⟩), .int .i64 fi, .int .i64 si] w fun e w' => e = .returned (.tuple #[.pointer none, .int .i64 1]) ∧ w = w' := by
  have c0 := h.cell0
  obtain ⟨f1, f2⟩ := i64_bounds hf
  obtain ⟨s1, s2⟩ := i64_bounds hs
  unfold NoRegion at hno
  clear h hf hs
  by_cases h1 : si < 1
  · clear hno
    go_enter Try.func11, Try.ntmps11
    go_wp2
    go_ret2
    exact ⟨rfl, rfl⟩
  · by_cases h2 : fi < 0
    · clear hno
      go_enter Try.func11, Try.ntmps11
      go_wp2
      go_ret2
      exact ⟨rfl, rfl⟩
    · by_cases h3 : (n : Int) ≤ fi
      · clear hno
        go_enter Try.func11, Try.ntmps11
        go_wp2
        go_ret2
        exact ⟨rfl, rfl⟩
      · have h4 : (n : Int) - fi < si := by omega
        have h5 : fi ≤ 65536 := by omega
        have h6 : 0 ≤ fi := by omega
        clear hno
        go_enter Try.func11, Try.ntmps11
        go_wp2
        go_ret2
        exact ⟨rfl, rfl⟩

def ClearAns (Z Y : Nat → Prop) (pj q n f k : Nat) (F : Int → Option (List UInt8)) (cs : List CallM) (w : World) (e : Ending) (w' : World) : Prop :=
  e = .returned (.int .i64 0) ∧ RefJ w' Y pj q f k [] ∧ (∃ Z', Rk w' Z' q n F (cs ++ zto (con F cs) f k 0 k ++ [syncM]) ∧ ∀ j, Z' j → Z j ∨ w.heap.size ≤ j) ∧ Turned (fun j => Z j ∨ j = pj) w w'

set_option maxRecDepth 100000 in
set_option maxHeartbeats 2000000 in
theorem jref_clear {w : World} {Z Y : Nat → Prop} {pj q n f k : Nat} {F : Int → Option (List UInt8)} {cs : List CallM} {ls : List (List UInt8)} (h : Rk w Z q n F cs) (hj : RefJ w Y pj q f k ls) (hd : ∀ j, Y j → ¬ Z j) (hF : Blocks32 F) (hok : ∀ c ∈ cs, c.ok) (hc : cs.length ≤ 1048576 - 65536) (hn : n ≤ 65536) (hfk : f + k ≤ n) :
    Calls Try.prog 22 #[.pointer (some ⟨pj, 0, none⟩)] w (ClearAns Z Y pj q n f k F cs w) := by
  have hj0 := hj
  obtain ⟨A, c, hbox, hrow, hYp, hYl⟩ := hj
  have hz := jref_zero h hF hok (by omega) hn f k 0 pj _ hfk (by omega) hbox (hd pj hYp)
  rw [show ((0 : Nat) : Int) = 0 from rfl] at hz
  have HZ := Lib.hid hz
  have HR := Lib.hid h
  have HD := Lib.hid hd
  have HX := Lib.hid hbox
  have HYP := Lib.hid hYp
  have HYL := Lib.hid hYl
  have HC := Lib.hid hc
  clear hz h hd hF hok hc hj0 hbox hrow hYp hYl
  go_enter Try.func22, Try.ntmps22
  go_wp2_with fail
  go_at_call 40
  (with_reducible refine (HZ.out).mono ?_)
  rintro e W5 ⟨rfl, hr5, ht5⟩
  have hsy := rk_sync hr5 (by
    have h1 := zto_len (con F cs) f k 0 k
    have h2 := HC.out
    rw [List.length_append]; omega)
  have hbox5 := ht5.obj HX.out (HD.out pj HYP.out)
  have p0 : W5.cell? ⟨pj, 0, none⟩ = some (.pointer (some ⟨q, 0, none⟩)) := cell_of_row _ _ 0 _ _ _ hbox5
  have HSY := Lib.hid hsy
  have HT5 := Lib.hid ht5
  have HX5 := Lib.hid hbox5
  have HS5 := Lib.hid ht5.size
  clear hr5 ht5 hsy hbox5
  go_wp2_with fail
  go_at_call 15
  (with_reducible refine (HSY.out).mono ?_)
  rintro e W6 ⟨rfl, hr6, ht6⟩
  have hout : ¬ grow Z w W5 pj := fun h => h.elim (HD.out pj HYP.out) (fun h => by have := HYL.out pj HYP.out; omega)
  have hbox6 := ht6.obj HX5.out hout
  have x3 : W6.cell? ⟨pj, 3, none⟩ = some (.slice A ls.length c) := cell_of_row _ _ 3 _ _ _ hbox6
  have z3 : W6.frozen? ⟨pj, 3, none⟩ = false := frozen_of_row W6 pj 3 _ _ hbox6
  obtain ⟨W7, e7⟩ : ∃ W7, W7 = W6.setCell ⟨pj, 3, none⟩ (.slice none 0 0) := ⟨_, rfl⟩
  have hbox7 := heap_setCell_same W6 pj 3 _ _ (.slice none 0 0) hbox6
  rw [← e7] at hbox7
  have hts : Turned (fun j => j = pj) W6 W7 := by rw [e7]; exact turned_setCell W6 pj 3 _
  have HE7 := Lib.hid e7
  have HX7 := Lib.hid hbox7
  have HTS := Lib.hid hts
  have HR6 := Lib.hid hr6
  have HT6 := Lib.hid ht6
  have HSZ : Hid (w.heap.size ≤ W5.heap.size ∧ W5.heap.size ≤ W6.heap.size ∧ W6.heap.size ≤ W7.heap.size) := Lib.hid ⟨HS5.out, ht6.size, hts.size⟩
  clear hr6 ht6 hbox6 e7 hbox7 hts hout p0
  go_wp2_with fail
  rw [← HE7.out]
  go_ret
  have hz := HSZ.out
  have hpl := HYL.out pj HYP.out
  have hnp : ∀ j, grow (grow Z w W5) W5 W6 j → j ≠ pj := fun j h e => by
    subst e
    rcases h with (h | h) | h
    · exact HD.out _ HYP.out h
    · omega
    · omega
  refine ⟨rfl, ⟨none, 0, HX7.out, fun i l hi => by simp at hi, HYP.out, fun j hj => by have := HYL.out j hj; omega⟩, ⟨grow (grow Z w W5) W5 W6, HR6.out.turned HTS.out hnp, fun j h => ?_⟩, ?_⟩
  · rcases h with (h | h) | h
    · exact .inl h
    · exact .inr h.1
    · exact .inr (by omega)
  · refine ((HT5.out.widen (T := fun j => Z j ∨ j = pj) (fun j h => .inl h)).trans HT6.out (fun x hx h => ?_)).trans HTS.out (fun x hx h => .inr h)
    rcases h with h | h
    · exact .inl h
    · omega
end Go.Proofs.Ytpfdlcogldbocaa
