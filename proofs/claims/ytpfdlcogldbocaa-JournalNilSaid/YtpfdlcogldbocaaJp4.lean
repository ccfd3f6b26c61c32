/-
  The program's journal opened. Conditions: its disk lies in memory; the region is valid.
  The program's journal's Room, Records, Sync and Clear, and all of its methods on a nil journal. Conditions: its disk and the journal lie in memory, apart.
-/
import Derived.Test.YtpfdlcogldbocaaJp2
import Derived.Test.YtpfdlcogldbocaaJref3
namespace Go.Proofs.Ytpfdlcogldbocaa
open Go.RowKit Go.Deep Go.Maps

theorem made_u8 (L : Nat) : madeCells #[.int .u8 0] L = (bytesV (List.replicate L 0)).toArray := by
  apply Array.ext
  · simp [madeCells, bytesV]
  · intro i h1 h2
    simp [madeCells, bytesV, byteV, Nat.mod_one]
theorem run_make_noughts (L : Nat) (h : L ≤ 2097152) (w : World) : (Instr.makeSlice 39 (.int .i64 (L : Int)) (.int .i64 (L : Int))).run Try.prog w = .ok (.slice (some ⟨w.heap.size, 0, none⟩) L L) (w.alloc (.cells (bytesV (List.replicate L 0)).toArray 5)) := by
  rw [← made_u8]
  exact run_make_row' 39 5 (.int .u8 0) 1 Try.underlying39 info_u8 rfl .i64 .i64 L (by omega) (by omega) w
theorem jp_build (p g L : Nat) (f : Int) (w : World) : (Instr.build 70 #[(0, .pointer (some ⟨p, 0, none⟩)), (1, .int .i64 f), (2, .slice (some ⟨g, 0, none⟩) L L)]).run Try.prog w = .ok (.agg #[.pointer (some ⟨p, 0, none⟩), .int .i64 f, .slice (some ⟨g, 0, none⟩) L L, .int .i64 0]) w := by kernel_rfl

theorem Dk.drewN {w : World} {Z : Nat → Prop} {p n : Nat} {F : Int → Option (List UInt8)} {cs : List CallM} {m : Nat} (h : Dk w Z p n F cs m) (N : Nat) : Dk (w.drewN N) Z p n F cs m := h.turned (Turned.of_below (S := fun _ => False) (below_drewN w.heap.size w N)) (fun _ _ h => h)
theorem PJ.drewN {w : World} {pj g p f k u : Nat} {X : List UInt8} (h : PJ w pj g p f k X u) (N : Nat) : PJ (w.drewN N) pj g p f k X u := ⟨h.1, h.2.1, h.2.2⟩
theorem PJ.used {w : World} {pj g p f k u : Nat} {X : List UInt8} (h : PJ w pj g p f k X u) (u' : Nat) : PJ (w.setCell ⟨pj, 3, none⟩ (.int .i64 (u' : Int))) pj g p f k X u' :=
  ⟨heap_setCell_same w pj 3 _ _ (.int .i64 (u' : Int)) h.1, (turned_setCell w pj 3 (.int .i64 (u' : Int))).obj h.2.1 h.2.2.2, h.2.2⟩

def JOpenAns (Z : Nat → Prop) (p n f k : Nat) (F : Int → Option (List UInt8)) (cs : List CallM) (m : Nat) (w : World) (e : Ending) (w' : World) : Prop :=
  ∃ pj g Z' ls u, e = .returned (.tuple #[.pointer (some ⟨pj, 0, none⟩), .int .i64 0]) ∧ IsScan (reg (con F cs) f k) ls u ∧ PJ w' pj g p f k (reg (con F (openCs (con F cs) cs f k u)) f k) u ∧ Dk w' Z' p n F (openCs (con F cs) cs f k u) (m + k + 1) ∧
    (w.heap.size ≤ pj ∧ ¬ Z' pj) ∧ (w.heap.size ≤ g ∧ ¬ Z' g) ∧ (∀ j, Z' j → Z j ∨ w.heap.size ≤ j) ∧ Turned Z w w'

set_option maxRecDepth 100000 in
set_option maxHeartbeats 4000000 in
theorem jp_open {w : World} {Z : Nat → Prop} {p n m : Nat} {F : Int → Option (List UInt8)} {cs : List CallM} (hD : Dk w Z p n F cs m) (f k : Nat) (h1 : 1 ≤ k) (hm : m + k < 1073741824) (hn : n ≤ 65536) (hfk : f + k ≤ n) :
    Calls Try.prog 10 #[.pointer (some ⟨p, 0, none⟩), .int .i64 (f : Int), .int .i64 (k : Int)] w (JOpenAns Z p n f k F cs m w) := by
  have hF := hD.f32
  have hok := hD.ok
  obtain ⟨L, eL⟩ : ∃ L, L = 32 * k := ⟨_, rfl⟩
  have hmk := run_make_noughts L (by omega)
  rw [show (L : Int) = (k : Int) * 32 by omega] at hmk
  have hbd := jp_build p w.heap.size L (f : Int)
  have HBK := Lib.hid (dk_blocks hD)
  have q0 : IntKind.i64.wrap ((n : Int) - (k : Int)) = (n : Int) - (k : Int) := IntWalk.i64_in _ (by omega)
  have q1 : IntKind.i64.wrap ((k : Int) * 32) = (k : Int) * 32 := IntWalk.i64_in _ (by omega)
  have d1 : decide ((k : Int) < 1) = false := by simp; omega
  have d2 : decide ((f : Int) < 0) = false := by simp
  have d3 : decide ((n : Int) - (k : Int) < (f : Int)) = false := by simp; omega
  obtain ⟨C1, eC1⟩ : ∃ C1, C1 = (bytesV (List.replicate L 0)).toArray := ⟨_, rfl⟩
  rw [← eC1] at hmk
  have HD := Lib.hid hD
  have HF := Lib.hid hF
  have HOK := Lib.hid hok
  have HM := Lib.hid hm
  have HFK := Lib.hid hfk
  have HEL := Lib.hid eL
  have HEC := Lib.hid eC1
  clear hD hF hok hm hfk eL eC1
  go_enter Try.func10, Try.ntmps10
  go_wp2_with fail
  go_at_call 33
  (with_reducible refine HBK.out.mono ?_)
  rintro e w' ⟨rfl, rfl⟩
  go_wp2_with fail
  obtain ⟨WB, eWB⟩ : ∃ WB, WB = (w.alloc (.cells C1 5)).alloc (.cells #[.pointer (some ⟨p, 0, none⟩), .int .i64 (f : Int), .slice (some ⟨w.heap.size, 0, none⟩) L L, .int .i64 0] 70) := ⟨_, rfl⟩
  have hbB : Below w.heap.size w WB := by rw [eWB]; exact ((Below.refl _ _).alloc (Nat.le_refl _) _).alloc (by simp) _
  have hsB : WB.heap.size = w.heap.size + 2 := by rw [eWB]; simp
  have hxB : WB.heap[w.heap.size + 1]? = some (.cells #[.pointer (some ⟨p, 0, none⟩), .int .i64 (f : Int), .slice (some ⟨w.heap.size, 0, none⟩) L L, .int .i64 0] 70 (0, 0)) := by
    have := heap_alloc_new (w.alloc (.cells C1 5)) (.cells #[.pointer (some ⟨p, 0, none⟩), .int .i64 (f : Int), .slice (some ⟨w.heap.size, 0, none⟩) L L, .int .i64 0] 70)
    rw [← eWB] at this
    simpa using this
  have hgB : WB.heap[w.heap.size]? = some (.cells (bytesV (List.replicate L 0)).toArray 5 (0, 0)) := by
    rw [eWB, Below.heap_alloc _ _ _ (by simp), ← HEC.out]
    exact heap_alloc_new w _
  have hJB : PJ WB (w.heap.size + 1) w.heap.size p f k (List.replicate L 0) 0 := ⟨by rw [hxB, HEL.out]; rfl, hgB, by rw [List.length_replicate]; exact HEL.out, by omega⟩
  have hDB : Dk WB Z p n F cs m := HD.out.below hbB
  have hzz : ¬ Z (w.heap.size + 1) ∧ ¬ Z w.heap.size := ⟨fun h => by have := HD.out.zlt _ h; omega, fun h => by have := HD.out.zlt _ h; omega⟩
  have HRD := Lib.hid (jp_read hDB hJB hzz hn HFK.out)
  have HWB := Lib.hid eWB
  have HBB := Lib.hid hbB
  have HZZ := Lib.hid hzz
  have HSB := Lib.hid hsB
  clear hbB hsB hxB hgB hJB hDB hzz hmk hbd
  rw [← eWB]
  clear eWB
  (with_reducible refine HRD.out.mono ?_)
  rintro e W2 ⟨rfl, hJ2, ht2⟩
  have h32 := con_all32 HF.out HOK.out
  have hlr := length_reg h32 f k
  obtain ⟨X, eX⟩ : ∃ X, X = reg (con F cs) f k := ⟨_, rfl⟩
  rw [← eX] at hJ2 hlr
  have hLX : L = X.length := by rw [hlr]; exact HEL.out
  have c2 := hJ2.c2
  rw [← HEL.out] at c2
  have hfkn := HFK.out
  have hXb : X.length ≤ 2097152 := by omega
  have hsc := scan_any (some ⟨w.heap.size, 0, none⟩) X L W2 (bytesAt_row hJ2.2.1) (by omega) (by unfold maxLen; omega) (by omega) (scan_count (by omega))
  rw [← hLX] at hsc
  have HSC := Lib.hid hsc
  have HJ2 := Lib.hid hJ2
  have HT2 := Lib.hid ht2
  have HLX := Lib.hid hLX
  have EX := Lib.hid eX
  have H32 := Lib.hid h32
  have HXB := Lib.hid hXb
  clear hsc hJ2 ht2 hLX eX h32 hlr hXb hfkn
  go_wp2_with fail
  go_at_call 35
  (with_reducible refine HSC.out.mono ?_)
  rintro e W3 ⟨v3, ls, u, rfl, hs3, hli3, hb3⟩
  have hJ3 := HJ2.out.below hb3
  have x3 := hJ3.c3
  have z3 : W3.frozen? ⟨w.heap.size + 1, 3, none⟩ = false := frozen_of_row W3 (w.heap.size + 1) 3 _ _ hJ3.1
  obtain ⟨W4, e4⟩ : ∃ W4, W4 = W3.setCell ⟨w.heap.size + 1, 3, none⟩ (.int .i64 (u : Int)) := ⟨_, rfl⟩
  have hJ4 := hJ3.used u
  rw [← e4] at hJ4
  have hts : Turned (fun j => j = w.heap.size + 1) W3 W4 := by rw [e4]; exact turned_setCell W3 (w.heap.size + 1) 3 _
  have hD4 : Dk W4 Z p n F cs m := (((HD.out.below HBB.out).turned HT2.out (fun x hx e => HZZ.out.2 (e ▸ hx))).below hb3).turned hts (fun x hx e => HZZ.out.1 (e ▸ hx))
  have htw : Turned Z w W4 := (((Turned.of_below (S := Z) HBB.out).trans HT2.out (fun x hx e => by omega)).trans (Turned.of_below (S := fun _ => False) hb3) (fun _ _ h => h.elim)).trans hts (fun x hx e => by omega)
  have hu : u ≤ X.length := hs3.1
  obtain ⟨A', hsl, hbA⟩ := rest_slice (bytesAt_row hJ4.2.1) hu (Nat.le_of_eq HLX.out.symm) (by have := HLX.out; have := HXB.out; unfold maxLen; omega)
  rw [← HLX.out] at hsl
  obtain ⟨r, er⟩ : ∃ r, r = (X.drop u).length := ⟨_, rfl⟩
  obtain ⟨c', ec'⟩ : ∃ c', c' = L - u := ⟨_, rfl⟩
  simp only [← er, ← ec'] at hsl
  have hzr : ∀ N, Calls Try.prog 36 #[.slice A' r c'] (W4.drewN N) fun e w' => e = .returned (.bool (noughts (X.drop u))) ∧ w' = W4.drewN N := fun N => by
    rw [er]
    exact (zero_is A' (X.drop u) c' (W4.drewN N) (hbA.drewN N) (by rw [List.length_drop]; have := HXB.out; omega)).mono fun e w' h => ⟨h.1, h.2.symm⟩
  have y2 := hJ4.c2
  rw [← HEL.out] at y2
  have y3 := hJ4.c3
  have hnl := zto_nil H32.out f k u
  rw [← EX.out] at hnl
  have HE4 := Lib.hid e4
  have HS3 := Lib.hid hs3
  have HJ4 := Lib.hid hJ4
  have HD4 := Lib.hid hD4
  have HTW := Lib.hid htw
  have HUX := Lib.hid hu
  have HSZ : Hid (w.heap.size + 1 < W4.heap.size) := Lib.hid hJ4.lt.1
  clear hs3 hli3 hb3 hJ3 hJ4 hts hD4 htw hu hbA er ec' e4
  by_cases hz : zto (con F cs) f k u k = []
  · have hno : noughts (X.drop u) = true := noughts_iff.2 (hnl.1 hz)
    rw [hno] at hzr
    have HZR := Lib.hid hzr
    have HOP : Hid (openCs (con F cs) cs f k u = cs) := Lib.hid (by unfold openCs; rw [if_pos hz])
    clear hno hz hnl hzr
    go_wp2_with fail
    rw [← HE4.out]
    go_quiet ((go_at_call 36; exact Calls.quiet_of_same (HZR.out _)))
    go_wp2_with fail
    go_ret2
    refine ⟨w.heap.size + 1, w.heap.size, Z, ls, u, rfl, by rw [← EX.out]; exact HS3.out, ?_, ?_, ⟨by omega, HZZ.out.1⟩, ⟨Nat.le_refl _, HZZ.out.2⟩, fun j h => .inl h, ?_⟩
    · rw [HOP.out, ← EX.out]
      exact HJ4.out.drewN _
    · rw [HOP.out]
      exact (HD4.out.drewN _).more (by omega)
    · exact HTW.out.trans (Turned.of_below (S := fun _ => False) (below_drewN W4.heap.size W4 _)) (fun _ _ h => h.elim)
  · have hno : noughts (X.drop u) = false := noughts_not (fun h => hz (hnl.2 h))
    rw [hno] at hzr
    have HZR := Lib.hid hzr
    have HOP : Hid (openCs (con F cs) cs f k u = cs ++ zto (con F cs) f k u k ++ [syncM]) := Lib.hid (by unfold openCs; rw [if_neg hz])
    have hwp : ∀ N, Calls Try.prog 37 #[.pointer (some ⟨w.heap.size + 1, 0, none⟩), .int .i64 (u : Int)] (W4.drewN N) (WipeAns Z (w.heap.size + 1) w.heap.size p n f k u F cs m u (W4.drewN N)) := fun N => by
      have hJN := HJ4.out.drewN N
      rw [EX.out] at hJN
      exact jp_wipe (HD4.out.drewN N) hJN HZZ.out HM.out hn HFK.out (by have := HUX.out; rw [← HLX.out, HEL.out] at this; exact this)
    have HWP := Lib.hid hwp
    clear hno hz hnl hzr hwp
    go_wp2_with fail
    rw [← HE4.out]
    go_quiet ((go_at_call 36; exact Calls.quiet_of_same (HZR.out _)))
    go_wp2_with fail
    go_at_call 37
    (with_reducible refine (HWP.out _).mono ?_)
    rintro e W7 ⟨rfl, hd7, hj7, ht7⟩
    have HD7 := Lib.hid hd7
    have HJ7 := Lib.hid hj7
    have HT7 := Lib.hid ht7
    clear hd7 hj7 ht7
    go_wp2_with fail
    go_ret2
    have hs4 := HSZ.out
    have hgw : ∀ x, grow Z W4 W7 x → Z x ∨ w.heap.size + 1 < x := fun x h => h.imp id (fun h => by have h1 : W4.heap.size ≤ x := h.1; omega)
    refine ⟨w.heap.size + 1, w.heap.size, grow Z W4 W7, ls, u, rfl, by rw [← EX.out]; exact HS3.out, ?_, ?_, ⟨by omega, fun h => ?_⟩, ⟨Nat.le_refl _, fun h => ?_⟩, fun j h => ?_, ?_⟩
    · rw [HOP.out]
      exact HJ7.out
    · rw [HOP.out]
      exact HD7.out
    · rcases hgw _ h with h | h
      · exact HZZ.out.1 h
      · omega
    · rcases hgw _ h with h | h
      · exact HZZ.out.2 h
      · omega
    · rcases hgw _ h with h | h
      · exact .inl h
      · exact .inr (by omega)
    · refine (HTW.out.trans (Turned.of_below (S := fun _ => False) (below_drewN W4.heap.size W4 _)) (fun _ _ h => h.elim)).trans HT7.out (fun x hx h => ?_)
      rcases h with h | h
      · exact h
      · omega

/-- No disk, or no valid region. -/
def NoReg (n : Nat) (fi si : Int) : Prop := si < 1 ∨ fi < 0 ∨ (n : Int) - si < fi
set_option maxRecDepth 100000 in
theorem jp_open_no {w : World} {Z : Nat → Prop} {p n m : Nat} {F : Int → Option (List UInt8)} {cs : List CallM} (hD : Dk w Z p n F cs m) (hn : n ≤ 65536) (fi si : Int) (hf : (Lit.int .i64 fi).wf = true) (hs : (Lit.int .i64 si).wf = true) (hno : NoReg n fi si) :
    Calls Try.prog 10 #[.pointer (some ⟨p, 0, none⟩), .int .i64 fi, .int .i64 si] w fun e w' => e = .returned (.tuple #[.pointer none, .int .i64 1]) ∧ w = w' := by
  have HBK := Lib.hid (dk_blocks hD)
  obtain ⟨f1, f2⟩ := i64_bounds hf
  obtain ⟨s1, s2⟩ := i64_bounds hs
  unfold NoReg at hno
  clear hD hf hs
  by_cases h1 : si < 1
  · have d1 : decide (si < 1) = true := by simp [h1]
    clear hno
    go_enter Try.func10, Try.ntmps10
    go_wp2_with fail
    go_ret2
    exact ⟨rfl, rfl⟩
  · have d1 : decide (si < 1) = false := by simp; omega
    by_cases h2 : fi < 0
    · have d2 : decide (fi < 0) = true := by simp [h2]
      clear hno
      go_enter Try.func10, Try.ntmps10
      go_wp2_with fail
      go_ret2
      exact ⟨rfl, rfl⟩
    · have d2 : decide (fi < 0) = false := by simp; omega
      have d3 : decide ((n : Int) - si < fi) = true := by simp; omega
      have q0 : IntKind.i64.wrap ((n : Int) - si) = (n : Int) - si := IntWalk.i64_in _ (by omega)
      clear hno
      go_enter Try.func10, Try.ntmps10
      go_wp2_with fail
      go_at_call 33
      (with_reducible refine HBK.out.mono ?_)
      rintro e w' ⟨rfl, rfl⟩
      go_wp2_with fail
      go_ret2
      exact ⟨rfl, rfl⟩
set_option maxRecDepth 100000 in
theorem jp_open_nil (v1 v2 : Value) (w : World) : Calls Try.prog 10 #[.pointer none, v1, v2] w fun e w' => e = .returned (.tuple #[.pointer none, .int .i64 1]) ∧ w = w' := by
  go_enter Try.func10, Try.ntmps10
  go_wp2_with fail
  go_ret2
  exact ⟨rfl, rfl⟩
end Go.Proofs.Ytpfdlcogldbocaa

namespace Go.Proofs.Ytpfdlcogldbocaa
open Go.RowKit Go.Deep Go.Maps

set_option maxRecDepth 100000 in
set_option maxHeartbeats 1000000 in
theorem jp_room {w : World} {pj g p f k u : Nat} {X : List UInt8} (h : PJ w pj g p f k X u) (hu : u ≤ 32 * k) (hk : k ≤ 65536) :
    Calls Try.prog 25 #[.pointer (some ⟨pj, 0, none⟩)] w (RoomAns (32 * (k : Int) - (u : Int)) w) := by
  have c2 := h.c2
  have c3 := h.c3
  obtain ⟨L, eL⟩ : ∃ L, L = 32 * k := ⟨_, rfl⟩
  rw [← eL] at c2
  have hLu : 32 * (k : Int) = (L : Int) := by omega
  rw [hLu]
  have q2 : IntKind.i64.wrap ((L : Int) - (u : Int)) = (L : Int) - (u : Int) := IntWalk.i64_in _ (by omega)
  clear h eL hLu hu hk
  go_enter Try.func25, Try.ntmps25
  go_wp2_with fail
  go_quiet (fail)
  go_wp2_with fail
  go_ret
  exact ⟨rfl, _, rfl⟩

def RecsAns (ls : List (List UInt8)) (w : World) (e : Ending) (w' : World) : Prop := ∃ v, e = .returned v ∧ ListIs w' w.heap.size v ls ∧ Below w.heap.size w w'
set_option maxRecDepth 100000 in
set_option maxHeartbeats 2000000 in
theorem jp_records {w : World} {pj g p f k u : Nat} {X : List UInt8} {ls : List (List UInt8)} (h : PJ w pj g p f k X u) (hs : IsScan X ls u) (hk : k ≤ 65536) :
    Calls Try.prog 24 #[.pointer (some ⟨pj, 0, none⟩)] w (RecsAns ls w) := by
  have c2 := h.c2
  have c3 := h.c3
  have hX := h.2.2.1
  have hu := hs.1
  obtain ⟨L, eL⟩ : ∃ L, L = 32 * k := ⟨_, rfl⟩
  rw [← eL] at c2
  have hsl : ∀ W, (Instr.sliceAt 39 (.slice (some ⟨g, 0, none⟩) L L) none (some (.int .i64 (u : Int))) none).run Try.prog W = .ok (.slice (some ⟨g, 0, none⟩) u L) W := fun W => u8_slice_to (by omega) (by unfold maxLen; omega)
  have hlt : (X.take u).length = u := by rw [List.length_take]; omega
  have hsc := scan_any (some ⟨g, 0, none⟩) (X.take u) L w.drew (bytesAt_row (w := w.drew) h.2.1 |>.take u) (by omega) (by unfold maxLen; omega) (by omega) (scan_count (by omega))
  rw [hlt] at hsc
  have HSC := Lib.hid (hsc.mono fun e w7 (h : ScanNew (X.take u) w.drew e w7) => (⟨h, by
    obtain ⟨_, _, _, _, _, _, hb⟩ := h
    exact (hb.cell (p := ⟨pj, 2, none⟩) (World.block_lt_of_cell? w _ c2)).trans c2, by
    obtain ⟨_, _, _, _, _, _, hb⟩ := h
    exact (hb.cell (p := ⟨pj, 3, none⟩) (World.block_lt_of_cell? w _ c3)).trans c3⟩ : ScanNew (X.take u) w.drew e w7 ∧ w7.cell? ⟨pj, 2, none⟩ = some (.slice (some ⟨g, 0, none⟩) L L) ∧ w7.cell? ⟨pj, 3, none⟩ = some (.int .i64 (u : Int))))
  have HS := Lib.hid hs.take
  clear h hs hX hu eL hlt hsc
  go_enter Try.func24, Try.ntmps24
  go_wp2_with fail
  go_region_held3 (fun x => x.cell? ⟨pj, 2, none⟩ = some (.slice (some ⟨g, 0, none⟩) L L) ∧ x.cell? ⟨pj, 3, none⟩ = some (.int .i64 (u : Int)))
    ((go_split_ands; refine ⟨?_, ?_⟩ <;> first | assumption | exact c2 | exact c3))
    ((go_at_call 35; (with_reducible refine HSC.out.mono ?_); rintro e w7 ⟨⟨v7, ls7, u7, rfl, hs7, hl7, hb7⟩, d0, d1⟩))
  have h1 := hs7.unique HS.out
  obtain ⟨rfl, rfl⟩ := h1
  have HL := Lib.hid hl7
  have HB := Lib.hid hb7
  clear hs7 hl7 hb7 d0 d1
  go_wp2_with fail
  go_ret
  have hb := HB.out
  exact ⟨_, rfl, HL.out, ⟨hb.os, hb.tape, hb.output, hb.size, hb.block⟩⟩

def JSyncAns (Z : Nat → Prop) (p n : Nat) (F : Int → Option (List UInt8)) (cs : List CallM) (m : Nat) (w : World) (e : Ending) (w' : World) : Prop :=
  e = .returned (.int .i64 0) ∧ Dk w' (grow Z w w') p n F (cs ++ [syncM]) (m + 1) ∧ Turned Z w w'
set_option maxRecDepth 100000 in
theorem jp_sync {w : World} {Z : Nat → Prop} {pj g p n f k m u : Nat} {F : Int → Option (List UInt8)} {cs : List CallM} {X : List UInt8} (hD : Dk w Z p n F cs m) (hJ : PJ w pj g p f k X u) (hm : m < 1073741824) :
    Calls Try.prog 14 #[.pointer (some ⟨pj, 0, none⟩)] w (JSyncAns Z p n F cs m w) := by
  have c0 := hJ.c0
  have HSY := Lib.hid (dk_sync hD hm)
  clear hD hJ hm
  go_enter Try.func14, Try.ntmps14
  go_wp2_with fail
  go_at_call 45
  (with_reducible refine HSY.out.mono ?_)
  rintro e w7 ⟨rfl, hd7, ht7⟩
  have HD7 := Lib.hid hd7
  have HT7 := Lib.hid ht7
  clear hd7 ht7
  go_wp2_with fail
  go_ret
  exact ⟨rfl, HD7.out, HT7.out⟩

def JClearAns (Z : Nat → Prop) (pj g p n f k : Nat) (F : Int → Option (List UInt8)) (cs : List CallM) (m : Nat) (w : World) (e : Ending) (w' : World) : Prop :=
  e = .returned (.int .i64 0) ∧ Dk w' (grow Z w w') p n F (cs ++ zto (con F cs) f k 0 k ++ [syncM]) (m + k + 1) ∧ PJ w' pj g p f k (reg (con F (cs ++ zto (con F cs) f k 0 k ++ [syncM])) f k) 0 ∧ Turned (fun x => Z x ∨ x = g ∨ x = pj) w w'
set_option maxRecDepth 100000 in
set_option maxHeartbeats 1000000 in
theorem jp_clear {w : World} {Z : Nat → Prop} {pj g p n f k m u : Nat} {F : Int → Option (List UInt8)} {cs : List CallM} (hD : Dk w Z p n F cs m) (hJ : PJ w pj g p f k (reg (con F cs) f k) u) (hZ : ¬ Z pj ∧ ¬ Z g) (hm : m + k < 1073741824) (hn : n ≤ 65536) (hfk : f + k ≤ n) :
    Calls Try.prog 21 #[.pointer (some ⟨pj, 0, none⟩)] w (JClearAns Z pj g p n f k F cs m w) := by
  have hw := jp_wipe hD hJ hZ hm hn hfk (fr := 0) (Nat.zero_le _)
  rw [show ((0 : Nat) : Int) = 0 from rfl] at hw
  have HW := Lib.hid hw
  have HZ := Lib.hid hZ
  have HL := Lib.hid hJ.lt
  clear hD hJ hZ hm hn hfk hw
  go_enter Try.func21, Try.ntmps21
  go_wp2_with fail
  go_at_call 37
  (with_reducible refine HW.out.mono ?_)
  rintro e W7 ⟨rfl, hd7, hj7, ht7⟩
  have x3 := hj7.c3
  have z3 : W7.frozen? ⟨pj, 3, none⟩ = false := frozen_of_row W7 pj 3 _ _ hj7.1
  obtain ⟨W8, e8⟩ : ∃ W8, W8 = W7.setCell ⟨pj, 3, none⟩ (.int .i64 0) := ⟨_, rfl⟩
  have hJ8 := hj7.used 0
  rw [show ((0 : Nat) : Int) = 0 from rfl, ← e8] at hJ8
  have hts : Turned (fun j => j = pj) W7 W8 := by rw [e8]; exact turned_setCell W7 pj 3 _
  have hs7 := ht7.size
  have hd8 : Dk W8 (grow Z w W7) p n F (cs ++ zto (con F cs) f k 0 k ++ [syncM]) (m + k + 1) := hd7.turned hts (fun x hx e => by
    subst e
    rcases hx with hx | hx
    · exact HZ.out.1 hx
    · have := HL.out.1
      omega)
  have hd8' : Dk W8 (grow Z w W8) p n F (cs ++ zto (con F cs) f k 0 k ++ [syncM]) (m + k + 1) := hd8.wide (fun x hx => hx.imp id (fun hx => ⟨hx.1, Nat.lt_of_lt_of_le hx.2 hts.size⟩)) (fun x hx => hx.elim (fun hx => hd8.zlt x (.inl hx)) (fun hx => hx.2))
  have ht8 : Turned (fun x => Z x ∨ x = g ∨ x = pj) w W8 := (ht7.widen (T := fun x => Z x ∨ x = g ∨ x = pj) (fun x h => h.imp id .inl)).trans hts (fun x _ h => .inr (.inr h))
  have HD8 := Lib.hid hd8'
  have HJ8 := Lib.hid hJ8
  have HT8 := Lib.hid ht8
  have HE8 := Lib.hid e8
  clear hd7 hj7 ht7 hJ8 hts hd8 hd8' ht8 e8 hs7
  go_wp2_with fail
  rw [← HE8.out]
  go_ret
  exact ⟨rfl, HD8.out, HJ8.out, HT8.out⟩

/-! ### no journal -/
set_option maxRecDepth 100000 in
theorem jp_nil_append (v : Value) (w : World) : Calls Try.prog 12 #[.pointer none, v] w fun e w' => e = .returned (.int .i64 1) ∧ w = w' := by
  go_enter Try.func12, Try.ntmps12
  go_wp2_with fail
  go_ret
  exact ⟨rfl, rfl⟩
set_option maxRecDepth 100000 in
theorem jp_nil_sync (w : World) : Calls Try.prog 14 #[.pointer none] w fun e w' => e = .returned (.int .i64 1) ∧ w = w' := by
  go_enter Try.func14, Try.ntmps14
  go_wp2_with fail
  go_ret
  exact ⟨rfl, rfl⟩
set_option maxRecDepth 100000 in
theorem jp_nil_clear (w : World) : Calls Try.prog 21 #[.pointer none] w fun e w' => e = .returned (.int .i64 1) ∧ w = w' := by
  go_enter Try.func21, Try.ntmps21
  go_wp2_with fail
  go_ret
  exact ⟨rfl, rfl⟩
set_option maxRecDepth 100000 in
theorem jp_nil_records (w : World) : Calls Try.prog 24 #[.pointer none] w fun e w' => e = .returned (.slice none 0 0) ∧ w = w' := by
  go_enter Try.func24, Try.ntmps24
  go_wp2_with fail
  go_ret
  exact ⟨rfl, rfl⟩
set_option maxRecDepth 100000 in
theorem jp_nil_room (w : World) : Calls Try.prog 25 #[.pointer none] w fun e w' => e = .returned (.int .i64 0) ∧ w = w' := by
  go_enter Try.func25, Try.ntmps25
  go_wp2_with fail
  go_ret
  exact ⟨rfl, rfl⟩
end Go.Proofs.Ytpfdlcogldbocaa
