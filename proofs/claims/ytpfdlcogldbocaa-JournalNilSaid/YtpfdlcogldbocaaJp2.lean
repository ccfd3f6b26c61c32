/-
  The program's journal's write and read of its region's blocks. Conditions: its disk and the journal lie in memory, apart.
  The program's journal's wipe: noughts behind a number of bytes, block by block from the last one on, and a Sync. Conditions: its disk and the journal lie in memory, apart.
-/
import Derived.Test.YtpfdlcogldbocaaDk
import Derived.Test.YtpfdlcogldbocaaJpm
import Derived.Deep.RegionHeld3
namespace Go.Proofs.Ytpfdlcogldbocaa
open Go.RowKit Go.Deep Go.Maps

theorem turned_drew (S : Nat → Prop) (w : World) : Turned S w w.drew := ⟨rfl, rfl, rfl, Nat.le_refl _, fun _ _ _ => rfl⟩
theorem Dk.drew {w : World} {Z : Nat → Prop} {p n : Nat} {F : Int → Option (List UInt8)} {cs : List CallM} {m : Nat} (h : Dk w Z p n F cs m) : Dk w.drew Z p n F cs m := h.turned (turned_drew (fun _ => False) w) (fun _ _ h => h)
theorem PJ.drew {w : World} {pj g p f k u : Nat} {X : List UInt8} (h : PJ w pj g p f k X u) : PJ w.drew pj g p f k X u := ⟨h.1, h.2.1, h.2.2⟩
theorem PJ.of_draw {w : World} {pj g p f k u : Nat} {X : List UInt8} (h : PJ w.drew pj g p f k X u) : PJ w pj g p f k X u := ⟨h.1, h.2.1, h.2.2⟩

def JwAns (Z : Nat → Prop) (pj g p n f k : Nat) (F : Int → Option (List UInt8)) (cs : List CallM) (m : Nat) (X : List UInt8) (u : Nat) (w : World) (e : Ending) (w' : World) : Prop :=
  e = .returned (.int .i64 0) ∧ Dk w' (grow Z w w') p n F cs m ∧ PJ w' pj g p f k X u ∧ Turned Z w w'

set_option maxRecDepth 100000 in
set_option maxHeartbeats 2000000 in
theorem jp_write {w : World} {Z : Nat → Prop} {pj g p n f k m u : Nat} {F : Int → Option (List UInt8)} {cs : List CallM} {X : List UInt8} (hD : Dk w Z p n F cs m) (hJ : PJ w pj g p f k X u) (hZ : ¬ Z pj ∧ ¬ Z g) (hm : m < 1073741824) (hn : n ≤ 65536) (hfk : f + k ≤ n) (i : Nat) (hi : i < k) :
    Calls Try.prog 42 #[.pointer (some ⟨pj, 0, none⟩), .int .i64 (i : Int)] w (JwAns Z pj g p n f k F (cs ++ [⟨false, ((f + i : Nat) : Int), (X.drop (32 * i)).take 32⟩]) (m + 1) X u w) := by
  have hX := hJ.2.2.1
  have p0 := hJ.c0
  have p1 := hJ.c1
  obtain ⟨bl, ebl⟩ : ∃ bl, bl = (X.drop (32 * i)).take 32 := ⟨_, rfl⟩
  have hbl : bl.length = 32 := by
    rw [ebl, List.length_take, List.length_drop, hX]
    omega
  have hbb : BytesAt w.drew (some ⟨g, 32 * i, none⟩) bl := by
    rw [ebl]
    exact bytesAt_part hJ.drew.2.1 (32 * i) 32
  have hwr := dk_write hD.drew hm hn ((f : Int) + (i : Int)) bl (some ⟨g, 32 * i, none⟩) 32 32 hbl.symm hbb (by omega) (fun _ g' o e hz => by
    injection e with e
    exact hZ.2 ((Addr.mk.inj e).1 ▸ hz))
  have hg : wGood n ((f : Int) + (i : Int)) bl := ⟨by omega, by omega, hbl⟩
  have hcode : wCode n ((f : Int) + (i : Int)) bl = 0 := by
    unfold wCode
    rw [if_pos ⟨hg.1, hg.2.1⟩, if_pos hbl]
  have hcs : wCs n cs ((f : Int) + (i : Int)) bl = cs ++ [⟨false, ((f + i : Nat) : Int), bl⟩] := by
    unfold wCs
    rw [if_pos hg, Int.natCast_add]
  rw [hcode, hcs] at hwr
  rw [← ebl]
  have HWR := Lib.hid (hwr.mono fun e w7 (h : DkIs Z p n F (cs ++ [⟨false, ((f + i : Nat) : Int), bl⟩]) (m + 1) w.drew 0 e w7) => (⟨h, h.2.2.cell (a := w.drew) p0 (fun h => hZ.1 h), h.2.2.cell (a := w.drew) p1 (fun h => hZ.1 h)⟩ : DkIs Z p n F (cs ++ [⟨false, ((f + i : Nat) : Int), bl⟩]) (m + 1) w.drew 0 e w7 ∧ w7.cell? ⟨pj, 0, none⟩ = some (.pointer (some ⟨p, 0, none⟩)) ∧ w7.cell? ⟨pj, 1, none⟩ = some (.int .i64 (f : Int))))
  have HBL := Lib.hid (block_is hJ.drew (by omega) i hi)
  have HJ := Lib.hid hJ
  have HZ := Lib.hid hZ
  have q1 : IntKind.i64.wrap ((f : Int) + (i : Int)) = (f : Int) + (i : Int) := IntWalk.i64_in _ (by omega)
  clear hD hJ hZ hX ebl hbl hbb hwr hg hcode hcs
  go_enter Try.func42, Try.ntmps42
  go_wp2_with fail
  go_region_held3 (fun x => x.cell? ⟨pj, 0, none⟩ = some (.pointer (some ⟨p, 0, none⟩)) ∧ x.cell? ⟨pj, 1, none⟩ = some (.int .i64 (f : Int)))
    ((go_split_ands; refine ⟨?_, ?_⟩ <;> first | assumption | exact p0 | exact p1))
    ((first | (go_at_call 52; (with_reducible refine HBL.out.mono ?_); rintro e w' ⟨rfl, rfl⟩) | (go_at_call 16; (with_reducible refine HWR.out.mono ?_); rintro e w7 ⟨⟨rfl, hr7, ht7⟩, d0, d1⟩)))
  have HR7 := Lib.hid hr7
  have HT7 := Lib.hid ht7
  clear hr7 ht7 d0 d1 p0 p1 q1
  go_wp2_with fail
  go_ret
  exact ⟨rfl, HR7.out, HJ.out.drew.turned HT7.out HZ.out.1 HZ.out.2, (turned_drew _ w).trans HT7.out (fun _ _ h => h)⟩

def JrAns (pj g p f k : Nat) (X : List UInt8) (u : Nat) (w : World) (e : Ending) (w' : World) : Prop :=
  e = .returned (.int .i64 0) ∧ PJ w' pj g p f k X u ∧ Turned (fun j => j = g) w w'

set_option maxRecDepth 100000 in
set_option maxHeartbeats 4000000 in
theorem jp_read {w : World} {Z : Nat → Prop} {pj g p n f k m u : Nat} {F : Int → Option (List UInt8)} {cs : List CallM} {X : List UInt8} (hD : Dk w Z p n F cs m) (hJ : PJ w pj g p f k X u) (hZ : ¬ Z pj ∧ ¬ Z g) (hn : n ≤ 65536) (hfk : f + k ≤ n) :
    Calls Try.prog 34 #[.pointer (some ⟨pj, 0, none⟩)] w (JrAns pj g p f k (reg (con F cs) f k) u w) := by
  have hX := hJ.2.2.1
  have hgj := hJ.2.2.2
  have c2 := hJ.c2
  obtain ⟨L, eL⟩ : ∃ L, L = 32 * k := ⟨_, rfl⟩
  rw [← eL] at c2
  have h32 := con_all32 hD.f32 hD.ok
  have hq : (L : Int).tdiv 32 = (k : Int) := by
    rw [eL, Int.tdiv_eq_ediv_of_nonneg (by omega)]
    omega
  have hkb : (k : Int) ≤ 65536 := by omega
  have HD := Lib.hid hD
  have HJ := Lib.hid hJ
  have HZ := Lib.hid hZ
  have HX := Lib.hid hX
  have H32 := Lib.hid h32
  have HGJ := Lib.hid hgj
  have HFK := Lib.hid hfk
  clear hD hJ hZ hX h32 hgj eL hfk
  go_enter Try.func34, Try.ntmps34
  go_wp2_with fail
  go_loopw [12] (fun i wr => ∃ j : Nat, i = .int .i64 (j : Int) ∧ j ≤ k ∧ PJ wr pj g p f k (reg (con F cs) f j ++ X.drop (32 * j)) u ∧ Turned (fun x => x = g) w wr) (fun i _ => k - (intOf i).toNat)
  case atStart => exact ⟨0, rfl, Nat.zero_le _, HJ.out, Turned.refl _ _⟩
  case round =>
    obtain ⟨j, rfl, hj, hjw, ht⟩ := hrel
    by_cases hjk : j < k
    · have p0 := hjw.c0
      have p1 := hjw.c1
      have hDw : Dk wr Z p n F cs m := HD.out.turned ht (fun x hx e => HZ.out.2 (e ▸ hx))
      have hfn := HFK.out
      have hrd := dk_read hDw.drew hn ((f + j : Nat) : Int) (by omega) (by omega)
      obtain ⟨b, eb⟩ : ∃ b, b = con F cs ((f + j : Nat) : Int) := ⟨_, rfl⟩
      rw [← eb, Int.natCast_add] at hrd
      have hb32 : b.length = 32 := by rw [eb]; exact H32.out _
      have hlt := hjw.lt.1
      have HRD := Lib.hid (hrd.mono fun e w7 (h : DkRead b wr.drew e w7) => (⟨h, by
        obtain ⟨_, _, _, _, _, hb⟩ := h
        exact (hb.cell (p := ⟨pj, 0, none⟩) hlt).trans p0, by
        obtain ⟨_, _, _, _, _, hb⟩ := h
        exact (hb.cell (p := ⟨pj, 1, none⟩) hlt).trans p1⟩ : DkRead b wr.drew e w7 ∧ w7.cell? ⟨pj, 0, none⟩ = some (.pointer (some ⟨p, 0, none⟩)) ∧ w7.cell? ⟨pj, 1, none⟩ = some (.int .i64 (f : Int))))
      have HJW := Lib.hid hjw
      have HT := Lib.hid ht
      have HB32 := Lib.hid hb32
      have EB := Lib.hid eb
      have q1 : IntKind.i64.wrap ((f : Int) + (j : Int)) = (f : Int) + (j : Int) := IntWalk.i64_in _ (by omega)
      clear hrd hjw ht hb32 eb hDw hfn hlt
      go_wp2_with fail
      go_region_held3 (fun x => x.cell? ⟨pj, 0, none⟩ = some (.pointer (some ⟨p, 0, none⟩)) ∧ x.cell? ⟨pj, 1, none⟩ = some (.int .i64 (f : Int)))
        ((go_split_ands; refine ⟨?_, ?_⟩ <;> first | assumption | exact p0 | exact p1))
        ((go_at_call 27; (with_reducible refine HRD.out.mono ?_); rintro e w7 ⟨⟨g7, rfl, hb7, hg7, hl7, hbw7⟩, d0, d1⟩))
      have hJ7 : PJ w7 pj g p f k (reg (con F cs) f j ++ X.drop (32 * j)) u := HJW.out.drew.below hbw7
      have hlr := length_reg H32.out f j
      have hXl : (reg (con F cs) f j ++ X.drop (32 * j)).length = 32 * k := hJ7.2.2.1
      have hbl := block_is hJ7 (by omega) j hjk
      have hcp := run_copy_part (o := 32 * j) (dLen := 32) (dCap := 32) (cap := 32) hJ7.2.1 hb7 (by rw [HB32.out]; omega) (by rw [HB32.out]; omega) (by rw [HB32.out, hXl]; omega)
      have hpr := putAt_read (f := f) H32.out HX.out hjk
      rw [← EB.out] at hpr
      rw [hpr, HB32.out] at hcp
      obtain ⟨W8, e8⟩ : ∃ W8, W8 = w7.setRow g (bytesV (reg (con F cs) f (j + 1) ++ X.drop (32 * (j + 1)))).toArray := ⟨_, rfl⟩
      rw [← e8] at hcp
      have ht8 : Turned (fun x => x = g) w7 W8 := by rw [e8]; exact turned_setRow w7 g _
      have hg8 : W8.heap[g]? = some (.cells (bytesV (reg (con F cs) f (j + 1) ++ X.drop (32 * (j + 1)))).toArray 5 (0, 0)) := by rw [e8]; exact heap_putAt hJ7.2.1 _
      have hl1 := length_reg H32.out f (j + 1)
      have hJ8 : PJ W8 pj g p f k (reg (con F cs) f (j + 1) ++ X.drop (32 * (j + 1))) u := ⟨ht8.obj hJ7.1 (fun e => HGJ.out e.symm), hg8, by rw [List.length_append, List.length_drop, hl1, HX.out]; omega, HGJ.out⟩
      have htw : Turned (fun x => x = g) w W8 := (HT.out.trans (Turned.of_below (S := fun _ => False) (show Below wr.heap.size wr w7 from ⟨hbw7.os, hbw7.tape, hbw7.output, hbw7.size, hbw7.block⟩)) (fun _ _ h => h.elim)).trans ht8 (fun _ _ h => h)
      have HBL := Lib.hid hbl
      have HJ8 := Lib.hid hJ8
      have HTW := Lib.hid htw
      have HCP := hcp
      clear hbl hJ8 htw hb7 hg7 hl7 hbw7 d0 d1 hJ7 hlr hXl hpr e8 ht8 hg8 hl1 p0 p1 q1 hcp
      go_wp2_with fail
      go_at_call 52
      (with_reducible refine HBL.out.mono ?_)
      rintro e w' ⟨rfl, rfl⟩
      go_wp2_with fail
      go_roundw
      case rel => exact ⟨j + 1, by go_num, by omega, HJ8.out, HTW.out⟩
      case measure => simp [intOf]; omega
    · have hjk2 : j = k := by omega
      subst hjk2
      have hX : reg (con F cs) f j ++ X.drop (32 * j) = reg (con F cs) f j := by
        rw [List.drop_of_length_le (by rw [HX.out]; omega), List.append_nil]
      rw [hX] at hjw
      have HJW := Lib.hid hjw
      have HT := Lib.hid ht
      clear hjw ht hX
      go_wp2_with fail
      go_ret
      exact ⟨rfl, HJW.out, HT.out⟩
end Go.Proofs.Ytpfdlcogldbocaa

namespace Go.Proofs.Ytpfdlcogldbocaa
open Go.RowKit Go.Deep Go.Maps

theorem run_max_sub (a : Int) (q : Nat) (h : (q : Int) = if 0 < a then a else 0) (W : World) : (Builtin.max_ #[3, 3] 3 #[.int .i64 0, .int .i64 a]).run Try.prog W = .ok (.int .i64 (q : Int)) W := by
  rw [h]
  by_cases ha : 0 < a
  · simp [Builtin.max_, Builtin.max2, ha]
  · simp [Builtin.max_, Builtin.max2, ha]

def WipeRel (Z : Nat → Prop) (pj g p n f k fr : Nat) (F : Int → Option (List UInt8)) (cs : List CallM) (m u : Nat) (w : World) (i : Value) (wr : World) : Prop :=
  ∃ j : Nat, i = .int .i64 ((k : Int) - 1 - (j : Int)) ∧ j ≤ k - fr / 32 ∧ Dk wr (grow Z w wr) p n F (cs ++ zto (con F cs) f k fr j) (m + j) ∧ PJ wr pj g p f k (reg (con F (cs ++ zto (con F cs) f k fr j)) f k) u ∧ Turned (fun x => Z x ∨ x = g) w wr
def WipeAns (Z : Nat → Prop) (pj g p n f k fr : Nat) (F : Int → Option (List UInt8)) (cs : List CallM) (m u : Nat) (w : World) (e : Ending) (w' : World) : Prop :=
  e = .returned (.int .i64 0) ∧ Dk w' (grow Z w w') p n F (cs ++ zto (con F cs) f k fr k ++ [syncM]) (m + k + 1) ∧ PJ w' pj g p f k (reg (con F (cs ++ zto (con F cs) f k fr k ++ [syncM])) f k) u ∧ Turned (fun x => Z x ∨ x = g) w w'

set_option maxRecDepth 100000 in
set_option maxHeartbeats 4000000 in
theorem jp_wipe {w : World} {Z : Nat → Prop} {pj g p n f k m u fr : Nat} {F : Int → Option (List UInt8)} {cs : List CallM} (hD : Dk w Z p n F cs m) (hJ : PJ w pj g p f k (reg (con F cs) f k) u) (hZ : ¬ Z pj ∧ ¬ Z g) (hm : m + k < 1073741824) (hn : n ≤ 65536) (hfk : f + k ≤ n) (hfr : fr ≤ 32 * k) :
    Calls Try.prog 37 #[.pointer (some ⟨pj, 0, none⟩), .int .i64 (fr : Int)] w (WipeAns Z pj g p n f k fr F cs m u w) := by
  have c2 := hJ.c2
  obtain ⟨L, eL⟩ : ∃ L, L = 32 * k := ⟨_, rfl⟩
  rw [← eL] at c2
  have hF := hD.f32
  have hok := hD.ok
  have hq : (L : Int).tdiv 32 = (k : Int) := by
    rw [eL, Int.tdiv_eq_ediv_of_nonneg (by omega)]
    omega
  obtain ⟨fb, efb⟩ : ∃ fb, fb = fr / 32 := ⟨_, rfl⟩
  have hq2 : (fr : Int).tdiv 32 = (fb : Int) := by
    rw [Int.tdiv_eq_ediv_of_nonneg (by omega)]
    omega
  have hkb : (k : Int) ≤ 65536 := by omega
  have hfb : fb ≤ k := by omega
  have hfrb : (fr : Int) ≤ 2097152 := by omega
  have HD := Lib.hid hD
  have HJ := Lib.hid hJ
  have HZ := Lib.hid hZ
  have HF := Lib.hid hF
  have HOK := Lib.hid hok
  have HFK := Lib.hid hfk
  have HM := Lib.hid hm
  have HFR : Hid (fb = fr / 32) := Lib.hid efb
  have HL := hJ.lt
  have hgj := hJ.2.2.2
  clear hD hJ hZ hF hok eL hfk hm efb
  go_enter Try.func37, Try.ntmps37
  go_wp2_with fail
  go_loopw [5] (fun i wr => WipeRel Z pj g p n f k fr F cs m u w i wr) (fun i _ => (intOf i + 1).toNat)
  case atStart => exact ⟨0, by simp, Nat.zero_le _, by
    unfold zto
    rw [List.append_nil]
    exact (HD.out.wide (fun j hj => .inl hj) (fun j hj => hj.elim (HD.out.zlt j) (fun hj => hj.2))), by
    unfold zto
    rw [List.append_nil]
    exact HJ.out, Turned.refl _ _⟩
  case round =>
    obtain ⟨j, rfl, hj, hd, hjw, ht⟩ := hrel
    have hgr : ¬ grow Z w wr pj ∧ ¬ grow Z w wr g := ⟨fun h => h.elim HZ.out.1 (fun h => by have := HL.1; omega), fun h => h.elim HZ.out.2 (fun h => by have := HL.2; omega)⟩
    by_cases hjk : j < k - fb
    · obtain ⟨i, ei⟩ : ∃ i : Nat, i = k - 1 - j := ⟨_, rfl⟩
      have ei2 : (k : Int) - 1 - (j : Int) = (i : Int) := by omega
      rw [ei2]
      have hfb2 := HFR.out
      have hfn := HFK.out
      have hjk2 : j < k := by omega
      have hik : i < k := by omega
      have hif : fb ≤ i := by omega
      obtain ⟨q, eqq⟩ : ∃ q, q = fr - 32 * i := ⟨_, rfl⟩
      have hq31 : q ≤ 31 := by omega
      obtain ⟨r, er⟩ : ∃ r, r = 32 - q := ⟨_, rfl⟩
      have hmx := run_max_sub ((fr : Int) - (i : Int) * 32) q (by split <;> omega)
      have hsl : ∀ W, (Instr.sliceAt 39 (.slice (some ⟨g, 32 * i, none⟩) 32 32) (some (.int .i64 (q : Int))) none none).run Try.prog W = .ok (.slice (some ⟨g, 32 * i + q, none⟩) r r) W := fun W => by
        have := u8_slice_from (W := W) (A := some ⟨g, 32 * i, none⟩) (n := 32) (cap := 32) (k := q) (by omega) (by omega) (by unfold maxLen; omega)
        rw [if_neg (by omega), Option.map_some, Addr.add_mid, ← er] at this
        exact this
      obtain ⟨X, eX⟩ : ∃ X, X = reg (con F (cs ++ zto (con F cs) f k fr j)) f k := ⟨_, rfl⟩
      rw [← eX] at hjw
      have hXl := hjw.2.2.1
      have hps := part_same (n := fr) HF.out HOK.out (by omega : f + k ≤ 65536) hjk2 ei
      have hst := reg_zto_step (n := fr) HF.out HOK.out (by omega : f + k ≤ 65536) hjk2 ei (by omega)
      have hbs := block_zto_step (n := fr) HF.out HOK.out (by omega : f + k ≤ 65536) hjk2 ei
      rw [← eX, ← eqq, ← er] at hps hst
      have hzr := zero_is (some ⟨g, 32 * i + q, none⟩) ((X.drop (32 * i + q)).take r) r wr (bytesAt_part hjw.2.1 _ _) (by rw [List.length_take]; omega)
      have hlr : ((X.drop (32 * i + q)).take r).length = r := by
        rw [List.length_take, List.length_drop, hXl]
        omega
      rw [hlr] at hzr
      have hbl := block_is hjw (by omega) i hik
      have hiI : (i : Int) ≤ 65536 := by omega
      have hifI : (fb : Int) ≤ (i : Int) := by omega
      have q3 : IntKind.i64.wrap ((i : Int) * 32) = (i : Int) * 32 := IntWalk.i64_in _ (by omega)
      have q4 : IntKind.i64.wrap ((fr : Int) - (i : Int) * 32) = (fr : Int) - (i : Int) * 32 := IntWalk.i64_in _ (by omega)
      have EI := Lib.hid ei
      have EI2 := Lib.hid ei2
      have HBL := Lib.hid hbl
      have HDW := Lib.hid hd
      have HJW := Lib.hid hjw
      have HT := Lib.hid ht
      have HGR := Lib.hid hgr
      by_cases hz : zb fr i (con F cs ((f + i : Nat) : Int)) = con F cs ((f + i : Nat) : Int)
      · have hdec : noughts ((X.drop (32 * i + q)).take r) = true := noughts_iff.2 (hps.2 hz)
        rw [hdec] at hzr
        have HZR := Lib.hid hzr
        have EZ := Lib.hid (zto_step_same (n := fr) (C := con F cs) (f := f) ei hz)
        have EX := Lib.hid eX
        clear hz hdec hzr hd hjw ht hgr hbl ei ei2 hps hst hbs hlr hXl eX er eqq hfb2 hfn
        go_wp2_with fail
        go_at_call 52
        (with_reducible refine HBL.out.mono ?_)
        rintro e w' ⟨rfl, rfl⟩
        go_wp2_with fail
        go_at_call 36
        (with_reducible refine HZR.out.mono ?_)
        rintro e w' ⟨rfl, rfl⟩
        go_wp2_with fail
        go_roundw
        case rel => exact ⟨j + 1, congrArg (Value.int .i64) (by have := EI2.out; omega), by have := HFR.out; omega, by
          rw [EZ.out]
          exact HDW.out.more (by omega), by
          rw [EZ.out, ← EX.out]
          exact HJW.out, HT.out⟩
        case measure => simp [intOf]
      · have hdec : noughts ((X.drop (32 * i + q)).take r) = false := noughts_not (fun h => hz (hps.1 h))
        rw [hdec] at hzr
        have HZR := Lib.hid hzr
        have hcl := fun ty => run_clear_part (c := r) ty hjw.2.1 (o := 32 * i + q) (n := r) (by omega) (by rw [hXl]; omega)
        rw [hst] at hcl
        obtain ⟨X2, eX2⟩ : ∃ X2, X2 = reg (con F (cs ++ zto (con F cs) f k fr (j + 1))) f k := ⟨_, rfl⟩
        rw [← eX2] at hcl hbs
        obtain ⟨W2, e2⟩ : ∃ W2, W2 = wr.setRow g (bytesV X2).toArray := ⟨_, rfl⟩
        rw [← e2] at hcl
        have ht2 : Turned (fun x => x = g) wr W2 := by rw [e2]; exact turned_setRow wr g _
        have hX2l : X2.length = 32 * k := by rw [eX2]; exact length_reg (con_all32 HF.out (zto_ok2 HF.out HOK.out (by omega) hjk2)) f k
        have hJ2 : PJ W2 pj g p f k X2 u := ⟨ht2.obj hjw.1 (fun e => hgj e.symm), by rw [e2]; exact heap_putAt hjw.2.1 _, hX2l, hgj⟩
        have hD2 : Dk W2 (grow Z w wr) p n F (cs ++ zto (con F cs) f k fr j) (m + j) := hd.turned ht2 (fun x hx e => hgr.2 (e ▸ hx))
        have hwr := jp_write hD2 hJ2 hgr (by have := HM.out; omega) hn hfn i hik
        have EZ := zto_step_other (n := fr) (C := con F cs) (f := f) ei hz
        have hcs : cs ++ zto (con F cs) f k fr j ++ [⟨false, ((f + i : Nat) : Int), (X2.drop (32 * i)).take 32⟩] = cs ++ zto (con F cs) f k fr (j + 1) := by
          rw [hbs, EZ, List.append_assoc]
        rw [hcs] at hwr
        have HWR := Lib.hid hwr
        have HT2 := Lib.hid ht2
        have EX2 := Lib.hid eX2
        clear hz hdec hzr hd hjw ht hgr hbl ei ei2 hps hst hbs hlr hXl eX er eqq hfb2 hfn eX2 e2 ht2 hX2l hJ2 hD2 hwr EZ hcs
        go_wp2_with fail
        go_at_call 52
        (with_reducible refine HBL.out.mono ?_)
        rintro e w' ⟨rfl, rfl⟩
        go_wp2_with fail
        go_at_call 36
        (with_reducible refine HZR.out.mono ?_)
        rintro e w' ⟨rfl, rfl⟩
        go_wp2_with (simp only)
        go_at_call 42
        (with_reducible refine HWR.out.mono ?_)
        rintro e w7 ⟨rfl, hd7, hj7, ht7⟩
        have hs2 := HT2.out.size
        have hs7 := ht7.size
        have hs0 := HT.out.size
        have hd7' : Dk w7 (grow Z w w7) p n F (cs ++ zto (con F cs) f k fr (j + 1)) (m + j + 1) := hd7.wide (fun x hx => by
          rcases hx with (hx | hx) | hx
          · exact .inl hx
          · exact .inr ⟨hx.1, by omega⟩
          · exact .inr ⟨by omega, hx.2⟩) (fun x hx => hx.elim (fun hx => by have := HD.out.zlt x hx; omega) (fun hx => hx.2))
        have ht7' : Turned (fun x => Z x ∨ x = g) w w7 := (HT.out.trans (HT2.out.widen (T := fun x => Z x ∨ x = g) (fun _ h => .inr h)) (fun _ _ h => h)).trans ht7 (fun x hx h => by
          rcases h with h | h
          · exact .inl h
          · omega)
        have HD7 := Lib.hid hd7'
        have HJ7 := Lib.hid hj7
        have HT7 := Lib.hid ht7'
        clear hd7 hj7 ht7 hd7' ht7' hs2 hs7 hs0 hcl
        go_wp2_with fail
        go_roundw
        case rel => exact ⟨j + 1, congrArg (Value.int .i64) (by have := EI2.out; omega), by have := HFR.out; omega, HD7.out, by
          rw [← EX2.out]
          exact HJ7.out, HT7.out⟩
        case measure => simp [intOf]
    · have hfb2 := HFR.out
      have hj2 : j = k - fr / 32 := by omega
      have hst := zto_stop (con_all32 HF.out HOK.out) f k fr k (by omega) (Nat.le_refl _)
      rw [← hj2] at hst
      rw [← hst] at hd hjw
      have hjI : (k : Int) - 1 - (j : Int) < (fb : Int) := by omega
      have hjI0 : -1 ≤ (k : Int) - 1 - (j : Int) := by omega
      have hsy := dk_sync hd (by have := HM.out; omega)
      have p0 := hjw.c0
      have HSY := Lib.hid hsy
      have HJW := Lib.hid hjw
      have HT := Lib.hid ht
      have HGR := Lib.hid hgr
      obtain ⟨i, ei⟩ : ∃ i : Int, i = (k : Int) - 1 - (j : Int) := ⟨_, rfl⟩
      rw [← ei] at hjI hjI0 ⊢
      clear hd hjw ht hgr hsy hst ei hfb2
      go_wp2_with fail
      go_at_call 45
      (with_reducible refine HSY.out.mono ?_)
      rintro e w7 ⟨rfl, hd7, ht7⟩
      have HD7 := Lib.hid hd7
      have HT7 := Lib.hid ht7
      clear hd7 ht7
      go_wp2_with fail
      go_ret
      have hs7 := HT7.out.size
      have hs0 := HT.out.size
      refine ⟨rfl, (HD7.out.wide (fun x hx => ?_) (fun x hx => ?_)).more (by omega), ?_, HT.out.trans HT7.out (fun x hx h => ?_)⟩
      · rcases hx with (hx | hx) | hx
        · exact .inl hx
        · exact .inr ⟨hx.1, by omega⟩
        · exact .inr ⟨by omega, hx.2⟩
      · exact hx.elim (fun hx => by have := HD.out.zlt x hx; omega) (fun hx => hx.2)
      · rw [con_sync]
        exact HJW.out.turned HT7.out HGR.out.1 HGR.out.2
      · rcases h with h | h
        · exact .inl h
        · omega
end Go.Proofs.Ytpfdlcogldbocaa
