/-
  The walk of DiskLast: it returns true, and what was in memory stays as it was. Conditions: the arguments lie in memory as operations.
-/
import Derived.Test.YtficckhhlhcogaaStep
import Derived.Deep.CutRange
namespace Go.Proofs.Ytficckhhlhcogaa
open Go.RowKit Go.Maps

/-! ### the last good write of each block -/
def lastTo (os : List OpM) : Nat → Int → Option OpM
  | 0 => fun _ => none
  | k + 1 => if wGood 12 (os.getD k default).n (os.getD k default).b then fun y => if y = (os.getD k default).n then some (os.getD k default) else lastTo os k y else lastTo os k
def lastV : Option OpM → Value
  | none => .slice none 0 0
  | some o => .slice o.A o.b.length o.bcap
def lastCells (L : Int → Option OpM) : List Value := (List.range 12).map fun n : Nat => lastV (L (n : Int))
theorem length_lastCells (L : Int → Option OpM) : (lastCells L).length = 12 := by simp [lastCells]
theorem lastCells_at (L : Int → Option OpM) {n : Nat} (h : n < 12) : (lastCells L)[n]? = some (lastV (L (n : Int))) := by
  unfold lastCells
  rw [List.getElem?_map, List.getElem?_range h]
  rfl
theorem lastCells_set (L : Int → Option OpM) (x : Nat) (o : OpM) (h : x < 12) : lastCells (fun y => if y = (x : Int) then some o else L y) = (lastCells L).set x (lastV (some o)) := by
  apply List.ext_getElem?
  intro i
  rw [List.getElem?_set]
  by_cases hi : i < 12
  · rw [lastCells_at _ hi, lastCells_at _ hi]
    by_cases e : x = i
    · subst e
      rw [if_pos rfl, if_pos rfl, if_pos (by rw [length_lastCells]; exact h)]
    · rw [if_neg e, if_neg (by omega)]
  · rw [List.getElem?_eq_none (by rw [length_lastCells]; omega), List.getElem?_eq_none (by rw [length_lastCells]; omega)]
    by_cases e : x = i
    · omega
    · rw [if_neg e]
theorem lastTo_good {os : List OpM} {k : Nat} {o : OpM} (ho : os[k]? = some o) (h : wGood 12 o.n o.b) : lastTo os (k + 1) = fun y => if y = o.n then some o else lastTo os k y := by
  have e : os.getD k default = o := by rw [List.getD_eq_getElem?_getD, ho]; rfl
  show (if wGood 12 (os.getD k default).n (os.getD k default).b then _ else _) = _
  rw [e, if_pos h]
theorem lastTo_bad {os : List OpM} {k : Nat} {o : OpM} (ho : os[k]? = some o) (h : ¬ wGood 12 o.n o.b) : lastTo os (k + 1) = lastTo os k := by
  have e : os.getD k default = o := by rw [List.getD_eq_getElem?_getD, ho]; rfl
  show (if wGood 12 (os.getD k default).n (os.getD k default).b then _ else _) = _
  rw [e, if_neg h]
/-- What is named is an operation of the script, of 32 bytes. -/
theorem lastTo_of (os : List OpM) : ∀ k x o, k ≤ os.length → lastTo os k x = some o → o ∈ os ∧ o.b.length = 32
  | 0, x, o, _, h => by cases h
  | k + 1, x, o, hk, h => by
    have ho : os[k]? = some os[k] := List.getElem?_eq_getElem (by omega)
    by_cases g : wGood 12 os[k].n os[k].b
    · rw [lastTo_good ho g] at h
      by_cases e : x = os[k].n
      · simp only [e, if_true, Option.some.injEq] at h
        rw [← h]
        exact ⟨List.getElem_mem _, g.2.2⟩
      · simp only [e, if_false] at h
        exact lastTo_of os k x o (by omega) h
    · rw [lastTo_bad ho g] at h
      exact lastTo_of os k x o (by omega) h

/-- How things stand behind k operations. -/
def LastRel (os : List OpM) (p bf bs lb B : Nat) (w4 : World) (k : Nat) (wr : World) : Prop :=
  ∃ v S cs, DiskIs wr p bf bs v 12 0 (fun _ => none) S cs ∧ Blocks32 S ∧ Lays (fun _ => none) S cs ∧ cs.length ≤ k ∧ (∀ j, foot p bf bs v j → B ≤ j) ∧ ¬ foot p bf bs v lb ∧
    wr.heap[lb]? = some (.cells (lastCells (lastTo os k)).toArray 47 (0, 0)) ∧ (∀ x, S x = (lastTo os k x).map OpM.b) ∧ Below B w4 wr

/-! ### bytes as strings -/
theorem conv_at {A : Option Addr} {l : List UInt8} {cap : Nat} {w : World} (h : BytesAt w A l) (hl : 0 < l.length) : (convert 31 9 (.slice A l.length cap)).run Try.prog w = .ok (.string ⟨l.toArray⟩) w := by
  obtain ⟨g, o, rfl, _⟩ := h 0 l[0] (List.getElem?_eq_getElem hl)
  refine run_convert_bytes_back w 31 9 5 ⟨g, o, none⟩ cap l Try.underlying31 Try.underlying5 Try.underlying9 (fun j hj => ?_)
  obtain ⟨g', o', e, hc⟩ := h j l[j] (List.getElem?_eq_getElem hj)
  injection e with e
  rw [Addr.add_mid, (Addr.mk.inj e).1, (Addr.mk.inj e).2.1]
  exact hc
theorem bytesAt_blk {w : World} {g : Nat} {l : List UInt8} {t : TypeId} (h : w.heap[g]? = some (.cells (bytesV l).toArray t (0, 0))) : BytesAt w (some ⟨g, 0, none⟩) l := by
  intro i b hb
  refine ⟨g, 0, rfl, ?_⟩
  rw [cell_of_row w g (0 + i) _ _ _ h]
  simp [bytesV, hb]
theorem conv_blk {w : World} {g : Nat} {l : List UInt8} {t : TypeId} {cap : Nat} (h : w.heap[g]? = some (.cells (bytesV l).toArray t (0, 0))) (hl : l.length = 32) : (convert 31 9 (.slice (some ⟨g, 0, none⟩) 32 cap)).run Try.prog w = .ok (.string ⟨l.toArray⟩) w := by
  have := conv_at (cap := cap) (bytesAt_blk h) (by omega)
  rwa [hl] at this
theorem BytesAt.below {w w' : World} {A : Option Addr} {l : List UInt8} {B : Nat} (h : BytesAt w A l) (hb : Below B w w') (hB : w.heap.size ≤ B) : BytesAt w' A l := by
  intro i b hi
  obtain ⟨g, o, e, hc⟩ := h i b hi
  exact ⟨g, o, e, (hb.cell (p := ⟨g, o + i, none⟩) (Nat.lt_of_lt_of_le (World.block_lt_of_cell? w _ hc) hB)).trans hc⟩

set_option maxRecDepth 100000 in
set_option maxHeartbeats 4000000 in
theorem last_any (S0 : Option Addr) (scap : Nat) (os : List OpM) (o : OpM) (w : World) (hs : OpsAt w S0 os) (ho : o.good w) :
    Calls Try.prog 6 #[.slice S0 os.length scap, .agg o.cells.toArray] w (TrueIs w) := by
  have HS := Lib.hid hs
  have HO := Lib.hid ho

  obtain ⟨kind, n, torn, A, b, bcap, K, keep, kcap⟩ := o
  unfold OpM.cells
  have hn : Hid (∀ w, Calls Try.prog 8 #[.int .i64 12] w (NewDisk w 12)) := fun w => new_in 12 w (by omega) (by omega)
  clear hs ho
  go_enter Try.func6, Try.ntmps6
  go_wp2_with fail
  go_at_call 8
  (with_reducible refine (hn.out _).mono ?_)
  rintro e w2 ⟨p, bf, bs, v0, rfl, hd, hfo, hb⟩
  have HD := Lib.hid hd
  have HFO := Lib.hid hfo
  have HB2 := Lib.hid hb
  clear hd hfo hb
  go_wp2_with fail
  go_at_call 7
  (with_reducible refine (alive_any _).mono ?_)
  rintro e w3 ⟨rfl, hb3⟩
  have HB3 := Lib.hid hb3
  clear hb3
  go_wp2_with fail
  have hb4 : Below (w.heap.size + 1) (w.alloc (.cells #[.int .i64 kind, .int .i64 n, .slice A b.length bcap, .slice K keep.length kcap, .int .i64 torn] 34)) w3 := by
    have h2 := HB2.out
    have h3 := HB3.out
    have e1 : (w.alloc (.cells #[.int .i64 kind, .int .i64 n, .slice A b.length bcap, .slice K keep.length kcap, .int .i64 torn] 34)).heap.size = w.heap.size + 1 := by simp
    rw [e1] at h2
    have hs2 := h2.size
    rw [e1] at hs2
    exact h2.trans (h3.mono hs2)
  have hs3 : w.heap.size + 1 ≤ w3.heap.size := by have := hb4.size; simpa using this
  have hwx : Below w.heap.size w w3 := ((Below.refl _ _).alloc (Nat.le_refl _) _).trans (hb4.mono (by omega))
  have HB4 := Lib.hid hb4
  have HWX := Lib.hid hwx
  have hfoot0 : ∀ j, foot p bf bs v0 j → w.heap.size + 1 ≤ j := fun j hj => by have := HFO.out j hj; simpa using this
  have hlt0 : ∀ j, foot p bf bs v0 j → j < w3.heap.size := fun j hj => Nat.lt_of_lt_of_le (HD.out.lt j hj) HB3.out.size
  clear hb4 hwx
  go_loopw [8] (fun ii wr => ∃ k : Nat, ii = .int .i64 (k : Int) ∧ k ≤ os.length ∧ k ≤ 40 ∧ LastRel os p bf bs w3.heap.size (w.heap.size + 1) w3 k wr) (fun ii _ => 40 - (intOf ii).toNat)
  case atStart =>
    refine ⟨0, rfl, Nat.zero_le _, Nat.zero_le _, v0, _, [], (HD.out.turned (Turned.of_below (S := fun _ => False) HB3.out) (fun _ _ h => h)).turned (Turned.of_below (S := fun _ => False) ((Below.refl _ _).alloc (Nat.le_refl _) _)) (fun _ _ h => h), none32, Lays.start _, Nat.le_refl _, hfoot0, fun h => by have := hlt0 _ h; omega, ?_, fun x => rfl, (Below.refl _ _).alloc (by omega) _⟩
    exact heap_alloc_new w3 _
  case round =>
    obtain ⟨k, rfl, hk1, hk2, v, S, cs, hd, h32, hlay, hcl, hfoot, hclear, hlb, hSL, hbel⟩ := hrel
    by_cases hlt : k < os.length ∧ k < 40
    · obtain ⟨hl1, hl2⟩ := hlt
      obtain ⟨q, hq⟩ : ∃ q, os[k]? = some q := ⟨_, List.getElem?_eq_getElem hl1⟩
      obtain ⟨⟨gb, _, _, wqn, _, hcap, _, _⟩, sg, so, hSe, hr⟩ := HS.out k q hq
      subst hSe
      have hbw : Below w.heap.size w wr := HWX.out.trans (hbel.mono (by omega))
      have c1w : w.cell? ⟨sg, so + k * 5 + 1, none⟩ = some (.int .i64 q.n) := hr 1 _ rfl
      have c2w : w.cell? ⟨sg, so + k * 5 + 2, none⟩ = some (.slice q.A q.b.length q.bcap) := hr 2 _ rfl
      have lsg := World.block_lt_of_cell? w _ c1w
      have c1 : wr.cell? ⟨sg, so + k * 5 + 1, none⟩ = some (.int .i64 q.n) := (hbw.cell (p := ⟨sg, so + k * 5 + 1, none⟩) lsg).trans c1w
      have c2 : wr.cell? ⟨sg, so + k * 5 + 2, none⟩ = some (.slice q.A q.b.length q.bcap) := (hbw.cell (p := ⟨sg, so + k * 5 + 2, none⟩) lsg).trans c2w
      have hsgf : ¬ foot p bf bs v sg := fun h => by have := hfoot _ h; have : sg < w.heap.size := lsg; omega
      have hW := write_any p bf bs v 12 0 (fun _ => none) S cs q.n q.b q.A q.bcap wr.drew hd (by omega) (by omega) (gb.below (w' := wr.drew) (B := w.heap.size) ⟨hbw.os, hbw.tape, hbw.output, hbw.size, hbw.block⟩ (Nat.le_refl _)) hcap
        (fun hp g o e hf => by
          obtain ⟨g', o', e', hc⟩ := gb 0 q.b[0] (List.getElem?_eq_getElem hp)
          rw [e] at e'
          injection e' with e'
          have h1 := World.block_lt_of_cell? w _ hc
          have h2 := hfoot _ hf
          have h3 : g = g' := (Addr.mk.inj e').1
          have h4 : g' < w.heap.size := h1
          omega)
      have hki : (k : Int) < (os.length : Int) := by omega
      have hk4 : (k : Int) < 40 := by omega
      have hk0 : (0 : Int) ≤ (k : Int) := by omega
      have HCL := Lib.hid hclear
      have HFT := Lib.hid hfoot
      have HLB := Lib.hid hlb
      have HSL := Lib.hid hSL
      have HLY := Lib.hid hlay
      have H32 := Lib.hid h32
      have HQ := Lib.hid hq
      have HSG := Lib.hid hsgf
      have HBW := Lib.hid hbw
      have HBE := Lib.hid hbel
      clear hclear hfoot hlb hSL hlay h32 hq hsgf hr c1w c2w hbw hbel
      by_cases hx0 : q.n < 0
      · have hg : ¬ wGood 12 q.n q.b := fun h => by obtain ⟨a1, a2, a3⟩ := h; omega
        have HW : Hid (Calls Try.prog 10 #[.pointer (some ⟨p, 0, none⟩), .int .i64 q.n, .slice q.A q.b.length q.bcap] wr.drew (Step wr.drew p bf bs v 12 0 (fun _ => none) S cs 21)) := by
          have e1 : wCode 12 q.n q.b = 21 := by unfold wCode; rw [if_neg (by omega)]
          have e2 : wS 12 S q.n q.b = S := if_neg hg
          have e3 : wCs 12 cs q.n q.b = cs := if_neg hg
          rw [e1, e2, e3] at hW
          exact hW
        clear hW
        go_wp2_with fail
        go_region_held3 (fun x => x.cell? ⟨sg, so + k * 5 + 1, none⟩ = some (.int .i64 q.n) ∧ x.cell? ⟨sg, so + k * 5 + 2, none⟩ = some (.slice q.A q.b.length q.bcap))
          ((go_split_ands; refine ⟨?_, ?_⟩ <;> first | assumption | exact ht2.cell c1 HSG.out | exact ht2.cell c2 HSG.out))
          (first | (go_at_call 10; (with_reducible refine HW.out.mono ?_); rintro e w4 ⟨rfl, v2, hd2, hv2, ht2⟩))
        have c1' : w4.cell? ⟨sg, so + k * 5 + 1, none⟩ = some (.int .i64 q.n) := ht2.cell c1 HSG.out
        have c2' : w4.cell? ⟨sg, so + k * 5 + 2, none⟩ = some (.slice q.A q.b.length q.bcap) := ht2.cell c2 HSG.out
        go_wp2_with fail
        go_roundw
        case rel =>
          refine ⟨k + 1, by go_num, by omega, by omega, v2, S, cs, hd2, H32.out, HLY.out, by omega, Step.above HFT.out (by have := HBE.out.size; show _ ≤ wr.heap.size; omega) hv2, Step.apart HCL.out (lt_of_some HLB.out) hv2, ?_, ?_, HBE.out.drew.trans (ht2.below (by have := HBE.out.size; show _ ≤ wr.heap.size; omega) HFT.out)⟩
          · rw [lastTo_bad HQ.out hg]
            exact ht2.obj HLB.out HCL.out
          · rw [lastTo_bad HQ.out hg]
            exact HSL.out
        case measure => simp [intOf]; omega
      by_cases hx1 : 12 ≤ q.n
      · have hg : ¬ wGood 12 q.n q.b := fun h => by obtain ⟨a1, a2, a3⟩ := h; omega
        have HW : Hid (Calls Try.prog 10 #[.pointer (some ⟨p, 0, none⟩), .int .i64 q.n, .slice q.A q.b.length q.bcap] wr.drew (Step wr.drew p bf bs v 12 0 (fun _ => none) S cs 21)) := by
          have e1 : wCode 12 q.n q.b = 21 := by unfold wCode; rw [if_neg (by omega)]
          have e2 : wS 12 S q.n q.b = S := if_neg hg
          have e3 : wCs 12 cs q.n q.b = cs := if_neg hg
          rw [e1, e2, e3] at hW
          exact hW
        clear hW
        have hx0' : 0 ≤ q.n := by omega
        clear hx0
        go_wp2_with fail
        go_region_held3 (fun x => x.cell? ⟨sg, so + k * 5 + 1, none⟩ = some (.int .i64 q.n) ∧ x.cell? ⟨sg, so + k * 5 + 2, none⟩ = some (.slice q.A q.b.length q.bcap))
          ((go_split_ands; refine ⟨?_, ?_⟩ <;> first | assumption | exact ht2.cell c1 HSG.out | exact ht2.cell c2 HSG.out))
          (first | (go_at_call 10; (with_reducible refine HW.out.mono ?_); rintro e w4 ⟨rfl, v2, hd2, hv2, ht2⟩))
        have c1' : w4.cell? ⟨sg, so + k * 5 + 1, none⟩ = some (.int .i64 q.n) := ht2.cell c1 HSG.out
        have c2' : w4.cell? ⟨sg, so + k * 5 + 2, none⟩ = some (.slice q.A q.b.length q.bcap) := ht2.cell c2 HSG.out
        go_wp2_with fail
        go_roundw
        case rel =>
          refine ⟨k + 1, by go_num, by omega, by omega, v2, S, cs, hd2, H32.out, HLY.out, by omega, Step.above HFT.out (by have := HBE.out.size; show _ ≤ wr.heap.size; omega) hv2, Step.apart HCL.out (lt_of_some HLB.out) hv2, ?_, ?_, HBE.out.drew.trans (ht2.below (by have := HBE.out.size; show _ ≤ wr.heap.size; omega) HFT.out)⟩
          · rw [lastTo_bad HQ.out hg]
            exact ht2.obj HLB.out HCL.out
          · rw [lastTo_bad HQ.out hg]
            exact HSL.out
        case measure => simp [intOf]; omega
      by_cases hl : q.b.length ≠ 32
      · have hg : ¬ wGood 12 q.n q.b := fun h => by obtain ⟨a1, a2, a3⟩ := h; omega
        have HW : Hid (Calls Try.prog 10 #[.pointer (some ⟨p, 0, none⟩), .int .i64 q.n, .slice q.A q.b.length q.bcap] wr.drew (Step wr.drew p bf bs v 12 0 (fun _ => none) S cs 1)) := by
          have e1 : wCode 12 q.n q.b = 1 := by unfold wCode; rw [if_pos (by omega), if_neg hl]
          have e2 : wS 12 S q.n q.b = S := if_neg hg
          have e3 : wCs 12 cs q.n q.b = cs := if_neg hg
          rw [e1, e2, e3] at hW
          exact hW
        clear hW
        have hx0' : 0 ≤ q.n := by omega
        have hx1' : q.n < 12 := by omega
        have hl' : ((q.b.length : Int) == 32) = false := by simp; omega
        clear hx0 hx1
        go_wp2_with fail
        go_region_held3 (fun x => x.cell? ⟨sg, so + k * 5 + 1, none⟩ = some (.int .i64 q.n) ∧ x.cell? ⟨sg, so + k * 5 + 2, none⟩ = some (.slice q.A q.b.length q.bcap))
          ((go_split_ands; refine ⟨?_, ?_⟩ <;> first | assumption | exact ht2.cell c1 HSG.out | exact ht2.cell c2 HSG.out))
          (first | (go_at_call 10; (with_reducible refine HW.out.mono ?_); rintro e w4 ⟨rfl, v2, hd2, hv2, ht2⟩))
        have c1' : w4.cell? ⟨sg, so + k * 5 + 1, none⟩ = some (.int .i64 q.n) := ht2.cell c1 HSG.out
        have c2' : w4.cell? ⟨sg, so + k * 5 + 2, none⟩ = some (.slice q.A q.b.length q.bcap) := ht2.cell c2 HSG.out
        go_wp2_with fail
        go_roundw
        case rel =>
          refine ⟨k + 1, by go_num, by omega, by omega, v2, S, cs, hd2, H32.out, HLY.out, by omega, Step.above HFT.out (by have := HBE.out.size; show _ ≤ wr.heap.size; omega) hv2, Step.apart HCL.out (lt_of_some HLB.out) hv2, ?_, ?_, HBE.out.drew.trans (ht2.below (by have := HBE.out.size; show _ ≤ wr.heap.size; omega) HFT.out)⟩
          · rw [lastTo_bad HQ.out hg]
            exact ht2.obj HLB.out HCL.out
          · rw [lastTo_bad HQ.out hg]
            exact HSL.out
        case measure => simp [intOf]; omega
      have hl' : q.b.length = 32 := by omega
      have hg : wGood 12 q.n q.b := ⟨by omega, by omega, hl'⟩
      obtain ⟨xn, hxn⟩ : ∃ xn : Nat, q.n = (xn : Int) := ⟨q.n.toNat, by omega⟩
      have hx12 : xn < 12 := by omega
      have HW : Hid (Calls Try.prog 10 #[.pointer (some ⟨p, 0, none⟩), .int .i64 (xn : Int), .slice q.A q.b.length q.bcap] wr.drew (Step wr.drew p bf bs v 12 0 (fun _ => none) (upd S q.n q.b) (cs ++ [⟨false, q.n, q.b⟩]) 0)) := by
        have e1 : wCode 12 q.n q.b = 0 := by unfold wCode; rw [if_pos (by omega), if_pos hl']
        have e2 : wS 12 S q.n q.b = upd S q.n q.b := if_pos hg
        have e3 : wCs 12 cs q.n q.b = cs ++ [⟨false, q.n, q.b⟩] := if_pos hg
        rw [e1, e2, e3] at hW
        rw [← hxn]
        exact hW
      rw [hxn] at c1
      have hlb' : ((q.b.length : Int) == 32) = true := by simp; omega
      have hxi : (xn : Int) < 12 := by omega
      have hxz : (0 : Int) ≤ (xn : Int) := by omega
      have lbsg : w3.heap.size ≠ sg := fun e => by have h1 : sg < w.heap.size := lsg; omega
      have HX := Lib.hid hxn
      have HL32 := Lib.hid hl'
      have HGD := Lib.hid hg
      clear hW hx0 hx1 hl hl' hg hxn
      go_wp2_with fail
      go_region_held3 (fun x => x.cell? ⟨sg, so + k * 5 + 1, none⟩ = some (.int .i64 (xn : Int)) ∧ x.cell? ⟨sg, so + k * 5 + 2, none⟩ = some (.slice q.A q.b.length q.bcap))
        ((go_split_ands; refine ⟨?_, ?_⟩ <;> first | assumption | exact ht2.cell c1 HSG.out | exact ht2.cell c2 HSG.out))
        (first | (go_at_call 10; (with_reducible refine HW.out.mono ?_); rintro e w4 ⟨rfl, v2, hd2, hv2, ht2⟩))
      have c1' : w4.cell? ⟨sg, so + k * 5 + 1, none⟩ = some (.int .i64 (xn : Int)) := ht2.cell c1 HSG.out
      have c2' : w4.cell? ⟨sg, so + k * 5 + 2, none⟩ = some (.slice q.A q.b.length q.bcap) := ht2.cell c2 HSG.out
      have hlb4 := ht2.obj HLB.out HCL.out
      have cl4 : w4.cell? ⟨w3.heap.size, xn, none⟩ = some (lastV (lastTo os k xn)) := by
        rw [cell_of_row _ _ _ _ _ _ hlb4]
        simpa using lastCells_at (lastTo os k) hx12
      have fl4 : w4.frozen? ⟨w3.heap.size, xn, none⟩ = false := frozen_of_row _ _ _ _ _ hlb4
      have HLB4 := Lib.hid hlb4
      clear hlb4
      go_wp2_with fail
      go_region_held3 (fun x => x.cell? ⟨sg, so + k * 5 + 1, none⟩ = some (.int .i64 (xn : Int)) ∧ x.cell? ⟨sg, so + k * 5 + 2, none⟩ = some (.slice q.A q.b.length q.bcap))
        ((go_split_ands; refine ⟨?_, ?_⟩ <;> first | assumption | exact c1' | exact c2' | exact (World.cell?_setCell_other _ _ _ _ (fun e => lbsg (congrArg Addr.block e))).trans c1' | exact (World.cell?_setCell_other _ _ _ _ (fun e => lbsg (congrArg Addr.block e))).trans c2'))
        (fail)
      go_wp2_with fail
      go_roundw
      case rel =>
        have hcl2 := Step.apart HCL.out (lt_of_some HLB.out) hv2
        have ht3 : Turned (fun x => x = w3.heap.size) w4 (w4.setCell ⟨w3.heap.size, xn, none⟩ (.slice q.A q.b.length q.bcap)).drew := ⟨rfl, rfl, rfl, by show w4.heap.size ≤ (w4.setCell _ _).heap.size; simp [World.setCell], fun i _ hi => Below.heap_setCell w4 ⟨w3.heap.size, xn, none⟩ _ i hi⟩
        refine ⟨k + 1, by go_num, by omega, by omega, v2, upd S q.n q.b, cs ++ [⟨false, q.n, q.b⟩], hd2.turned ht3 (fun i hi e => hcl2 (e ▸ hi)), blocks32_upd H32.out HL32.out, HLY.out.write none32 H32.out HL32.out, by simp; omega, Step.above HFT.out (by have := HBE.out.size; show _ ≤ wr.heap.size; omega) hv2, hcl2, ?_, ?_, ((HBE.out.drew.trans (ht2.below (by have := HBE.out.size; show _ ≤ wr.heap.size; omega) HFT.out)).setCell (p := ⟨w3.heap.size, xn, none⟩) (by show _ ≤ w3.heap.size; omega) _).drew⟩
        · rw [lastTo_good HQ.out HGD.out, HX.out, lastCells_set _ _ _ hx12]
          have := heap_setCell_same w4 w3.heap.size xn _ _ (.slice q.A q.b.length q.bcap) HLB4.out
          rw [List.setIfInBounds_toArray] at this
          exact this
        · intro x
          rw [lastTo_good HQ.out HGD.out]
          by_cases e : x = q.n
          · subst e
            rw [upd_same]
            simp
          · rw [upd_other _ _ _ e, HSL.out x]
            simp [e]
      case measure => simp [intOf]; omega
    · obtain ⟨v, S, cs, hd, h32, hlay, hcl, hfoot, hclear, hlb, hSL, hbel⟩ : LastRel os p bf bs w3.heap.size (w.heap.size + 1) w3 k wr := ⟨v, S, cs, hd, h32, hlay, hcl, hfoot, hclear, hlb, hSL, hbel⟩
      have hki : (k : Int) ≤ (os.length : Int) := by omega
      go_upto_region 6 with fail
      go_cut [42] from 35 to 95 (fun t wx => t = .bool false ∧ wr = wx)
      case first =>
        by_cases hk3 : k < os.length
        · have hk4 : decide ((k : Int) < 40) = false := by simp; omega
          have hk5 : (k : Int) < (os.length : Int) := by omega
          go_wp2_with fail
          go_meet
          exact ⟨rfl, rfl⟩
        · have hk5 : (os.length : Int) ≤ (k : Int) := by omega
          go_wp2_with fail
          go_meet
          exact ⟨rfl, rfl⟩
      case rest =>
        obtain ⟨rfl, rfl⟩ := hcut
        have HSY := Lib.hid (sync_step p bf bs v 12 0 (fun _ => none) S cs wr hd (by omega))
        have HLB := Lib.hid hlb
        have HSL := Lib.hid hSL
        have H32 := Lib.hid h32
        have HLS := Lib.hid hlay.sync
        have HBE := Lib.hid hbel
        clear hd hlb hSL h32 hlay hbel
        go_wp2_with fail
        go_at_call 12
        (with_reducible refine HSY.out.mono ?_)
        rintro e w5 ⟨rfl, v5, hd5, hv5, ht5⟩
        obtain ⟨A5, cap5, rfl, _, _, _, _, _⟩ := hd5.slice
        obtain ⟨cs5, hcs5⟩ : ∃ cs5, cs5 = cs ++ [syncM] := ⟨_, rfl⟩
        have HLS5 : Hid (Lays (fun _ => none) S (cs ++ [syncM])) := HLS.out
        rw [← hcs5] at hd5
        have hl5 : cs5.length ≤ 41 := by rw [hcs5]; simp; omega
        have hb5 : Below (w.heap.size + 1) w3 w5 := HBE.out.trans (ht5.below (by have := HBE.out.size; omega) hfoot)
        have hbox5 : w5.heap[w.heap.size]? = some (.cells #[.int .i64 kind, .int .i64 n, .slice A b.length bcap, .slice K keep.length kcap, .int .i64 torn] 34 (0, 0)) :=
          (hb5.block _ (by omega)).trans ((HB4.out.block _ (by omega)).trans (heap_alloc_new w _))
        have z3 : w5.cell? ⟨w.heap.size, 3, none⟩ = some (.slice K keep.length kcap) := cell_of_row _ _ 3 _ _ _ hbox5
        have z4 : w5.cell? ⟨w.heap.size, 4, none⟩ = some (.int .i64 torn) := cell_of_row _ _ 4 _ _ _ hbox5
        have hlb5 : w5.heap[w3.heap.size]? = some (.cells (lastCells (lastTo os k)).toArray 47 (0, 0)) := ht5.obj HLB.out hclear
        have hw5 : Below w.heap.size w w5 := HWX.out.trans (hb5.mono (by omega))
        obtain ⟨_, gK, _, _, wt, _, _, gkl⟩ := HO.out
        have gkl' : keep.length ≤ 9223372036854775807 := gkl
        have hk5 : BoolsAt w5 K keep := fun j x hx => by
          obtain ⟨g, o, e, hc⟩ := gK j x hx
          exact ⟨g, o, e, (hw5.cell (p := ⟨g, o + j, none⟩) (World.block_lt_of_cell? w _ hc)).trans hc⟩
        have e5 : red (cs5.length : Int) (cs5.length + 1) = cs5.length := by
          unfold red
          rw [if_neg (by omega), Int.toNat_natCast, Nat.mod_eq_of_lt (by omega)]
        have HCA : Hid (Calls Try.prog 17 #[.pointer (some ⟨p, 0, none⟩)] w5.drew fun e w' => e = .returned (.int .i64 (cs5.length : Int)) ∧ w5.drew = w') := calls_is p cs5.length cap5 A5 w5.drew (by
          have h3 := hd5.cell3
          have h4 := hd5.2.2.2.1.2
          rcases h4 with ⟨e, h0⟩ | ⟨g, c, cu, e, _⟩
          · rw [e] at h3
            injection e with e1 e2 e3
            rw [e1, e3, h0]
            exact h3
          · rw [e] at h3
            injection e with e1 e2 e3
            rw [e1, e3]
            exact h3)
        have hcut := cut_in p bf bs _ 12 0 (fun _ => none) S cs5 (cs5.length : Int) torn K kcap keep w5.drew hd5 none32 (by omega) (by omega) (by go_wf) wt hk5 gkl'
        unfold CutIs at hcut
        rw [e5, List.take_length] at hcut
        have HCU := Lib.hid hcut
        have HD5 := Lib.hid hd5
        have HLB5 := Lib.hid hlb5
        have HW5 := Lib.hid hw5
        have HK5 := Lib.hid hk5
        have HBX5 := Lib.hid hbox5
        have HCS5 := Lib.hid hcs5
        clear hcut hd5 hlb5 hw5 hk5 hbox5 e5 gK hcs5 gkl
        go_wp2_with fail
        go_region_held3 (fun x => x.cell? ⟨w.heap.size, 3, none⟩ = some (.slice K keep.length kcap) ∧ x.cell? ⟨w.heap.size, 4, none⟩ = some (.int .i64 torn))
          ((go_split_ands; refine ⟨?_, ?_⟩ <;> first | assumption | exact z3 | exact z4 | exact (hbx.cell (World.block_lt_of_cell? w5 _ z3)).trans z3 | exact (hbx.cell (World.block_lt_of_cell? w5 _ z4)).trans z4))
          (first
            | (go_at_call 17; (with_reducible refine HCA.out.mono ?_); rintro e w' ⟨rfl, rfl⟩)
            | (go_at_call 14; (with_reducible refine HCU.out.mono ?_); rintro e w6 ⟨kx, px, bfx, bsx, vx, hsx, rfl, hdx, hfx, hbx⟩))
        have hbx5 : Below w5.heap.size w5 w6 := ⟨hbx.os, hbx.tape, hbx.output, hbx.size, hbx.block⟩
        have hX : cutF (fun _ => none) cs5 kx keep torn = fun x => (S x).or none := by
          rw [HCS5.out] at hsx ⊢
          exact cutF_synced HLS5.out hsx keep torn
        rw [hX] at hdx
        have hd6 : DiskIs w6 p bf bs (.slice A5 cs5.length cap5) 12 0 (fun _ => none) S cs5 := by
          have h := HD5.out.turned (T := fun _ => False) (Turned.of_below hbx5) (fun _ _ h => h)
          exact h
        have y3 : w6.cell? ⟨w.heap.size, 3, none⟩ = some (.slice K keep.length kcap) := (hbx5.cell (World.block_lt_of_cell? w5 _ z3)).trans z3
        have y4 : w6.cell? ⟨w.heap.size, 4, none⟩ = some (.int .i64 torn) := (hbx5.cell (World.block_lt_of_cell? w5 _ z4)).trans z4
        have hk6 : BoolsAt w6 K keep := fun j x hx => by
          obtain ⟨g, o, e, hc⟩ := HK5.out j x hx
          exact ⟨g, o, e, (hbx5.cell (World.block_lt_of_cell? w5 _ hc)).trans hc⟩
        have e0 : red 0 (cs5.length + 1) = 0 := by unfold red; simp
        have hcut0 := cut_in p bf bs _ 12 0 (fun _ => none) S cs5 0 torn K kcap keep w6 hd6 none32 (by omega) (by omega) (by decide) wt hk6 gkl'
        unfold CutIs at hcut0
        rw [e0, List.take_zero] at hcut0
        have HCU0 := Lib.hid hcut0
        have HD6 := Lib.hid hd6
        have HDX := Lib.hid hdx
        have HX6 := Lib.hid hbx5
        have HHX := Lib.hid hX
        clear hcut0 hd6 hdx hk6 e0 hbx hX z3 z4 hfx hsx hbx5
        have hmk : ∀ W : World, (Instr.makeSlice 31 (.int .i64 32) (.int .i64 32)).run Try.prog W = .ok (.slice (some ⟨W.heap.size, 0, none⟩) 32 32) (W.alloc (.cells (bytesV zero32).toArray 5)) := fun W => by kernel_rfl
        go_wp2_with fail
        go_at_call 14
        (with_reducible refine HCU0.out.mono ?_)
        rintro e w7 ⟨ky, py, bfy, bsy, vy, hsy, rfl, hdy, hfy, hby⟩
        rw [cutF_zero _ hsy] at hdy
        have HDY := Lib.hid hdy
        have HBY := Lib.hid hby
        clear hdy hfy hsy hby y3 y4
        go_wp2_with fail
        obtain ⟨wz, hwz⟩ : ∃ wz, wz = w7.alloc (.cells (bytesV zero32).toArray 5) := ⟨_, rfl⟩
        have hz7 : Below w7.heap.size w7 wz := by rw [hwz]; exact (Below.refl _ _).alloc (Nat.le_refl _) _
        have hzz : wz.heap[w7.heap.size]? = some (.cells (bytesV zero32).toArray 5 (0, 0)) := by rw [hwz]; exact heap_alloc_new w7 _
        have hb7 : Below w6.heap.size w6 wz := HBY.out.trans (hz7.mono HBY.out.size)
        have hb6 : Below w5.heap.size w5 wz := HX6.out.trans (hb7.mono HX6.out.size)
        have hdz : DiskIs wz p bf bs (.slice A5 cs5.length cap5) 12 0 (fun _ => none) S cs5 := HD6.out.turned (T := fun _ => False) (Turned.of_below hb7) (fun _ _ h => h)
        have hxz : DiskIs wz px bfx bsx vx 12 (0 + cs5.length) (fun x => (S x).or none) (fun _ => none) [] := HDX.out.turned (T := fun _ => False) (Turned.of_below hb7) (fun _ _ h => h)
        have hyz : DiskIs wz py bfy bsy vy 12 (0 + cs5.length) (fun _ => none) (fun _ => none) [] := HDY.out.turned (T := fun _ => False) (Turned.of_below hz7) (fun _ _ h => h)
        have hlz : wz.heap[w3.heap.size]? = some (.cells (lastCells (lastTo os k)).toArray 47 (0, 0)) := (hb6.block _ (lt_of_some HLB5.out)).trans HLB5.out
        have hwzb : Below w.heap.size w wz := HW5.out.trans (hb6.mono HW5.out.size)
        have HZZ := Lib.hid hzz
        have HDZ := Lib.hid hdz
        have HXZ := Lib.hid hxz
        have HYZ := Lib.hid hyz
        have HLZ := Lib.hid hlz
        have HWZ := Lib.hid hwzb
        rw [← hwz]
        have HWE := Lib.hid hwz
        clear hz7 hzz hb7 hb6 hdz hxz hyz hlz hwzb hwz hmk
        go_loopw [13] (fun ii wr => ∃ m : Nat, ii = .int .i64 (m : Int) ∧ m ≤ 12 ∧ Below wz.heap.size wz wr) (fun ii _ => 12 - (intOf ii).toNat)
        case atStart => exact ⟨0, rfl, Nat.zero_le _, Below.refl _ _⟩
        case round =>
          obtain ⟨m, rfl, hm, hbr⟩ := hrel
          by_cases hm12 : m < 12
          · have hmi : (m : Int) < 12 := by omega
            have hm0 : (0 : Int) ≤ (m : Int) := by omega
            obtain ⟨wl, hwl⟩ : ∃ wl, wl = (S (m : Int)).getD zero32 := ⟨_, rfl⟩
            have hwll : wl.length = 32 := by rw [hwl]; exact getD32 H32.out _
            have hdr := HDZ.out.turned (T := fun _ => False) (Turned.of_below hbr) (fun _ _ h => h)
            have hR1 := read_in p bf bs _ 12 0 (fun _ => none) S cs5 (m : Int) wr hdr hm0 (by omega) (by omega) (fun _ h => by cases h) (fun l h => H32.out _ l h)
            have e1 : rd (fun _ => none) S (m : Int) = wl := by rw [hwl]; rfl
            rw [e1] at hR1
            have HR1 := Lib.hid hR1
            have HBR := Lib.hid hbr
            have HWL := Lib.hid hwl
            have HWLL := Lib.hid hwll
            have hcell : wr.cell? ⟨w3.heap.size, m, none⟩ = some (lastV (lastTo os k m)) := by
              rw [cell_of_row _ _ _ _ _ _ ((hbr.block _ (lt_of_some HLZ.out)).trans HLZ.out)]
              simpa using lastCells_at (lastTo os k) hm12
            have hzr : wr.heap[w7.heap.size]? = some (.cells (bytesV zero32).toArray 5 (0, 0)) := (hbr.block _ (lt_of_some HZZ.out)).trans HZZ.out
            have HZR := Lib.hid hzr
            clear hR1 hdr e1 hbr hwl hwll hzr
            cases hL : lastTo os k m with
            | none =>
              have hwz32 : wl = zero32 := by rw [HWL.out, HSL.out, hL]; rfl
              subst hwz32
              rw [hL] at hcell
              have hcell' : wr.cell? ⟨w3.heap.size, m, none⟩ = some (.slice none 0 0) := hcell
              have HWT : Hid (∀ W, Below wr.heap.size wr W → (convert 31 9 (.slice (some ⟨w7.heap.size, 0, none⟩) 32 32)).run Try.prog W = .ok (.string ⟨zero32.toArray⟩) W) := fun W hb => by
                exact conv_blk ((hb.block _ (lt_of_some HZR.out)).trans HZR.out) rfl
              have hne : (binOp .eql 31 (.slice none 0 0) (.slice none 0 0)).run Try.prog wr = .ok (.bool true) wr := run_eql_nil_slice wr 31 5 none 0 0 0 0 Try.underlying31
              clear hcell hL
              go_wp2_with fail
              go_at_call 18
              (with_reducible refine HR1.out.mono ?_)
              rintro e w8 ⟨ga, rfl, hga, hla, hb8⟩
              have hbz8 : Below wz.heap.size wz w8 := HBR.out.trans (hb8.mono HBR.out.size)
              have hR2 := read_in px bfx bsx vx 12 (0 + cs5.length) (fun x => (S x).or none) (fun _ => none) [] (m : Int) w8 (HXZ.out.turned (T := fun _ => False) (Turned.of_below hbz8) (fun _ _ h => h)) hm0 (by omega) (by omega) (fun l h => by
                cases hs : S (m : Int) with
                | none => rw [hs] at h; cases h
                | some l' =>
                  rw [hs] at h
                  have e : l' = l := by injection h
                  rw [← e]; exact H32.out _ l' hs) (fun _ h => by cases h)
              have e2 : rd (fun x => (S x).or none) (fun _ => none) (m : Int) = zero32 := by
                rw [HWL.out]
                show ((S (m : Int)).or none).getD zero32 = _
                cases S (m : Int) <;> rfl
              rw [e2] at hR2
              have HR2 := Lib.hid hR2
              have HGA := Lib.hid hga
              have HB8 := Lib.hid hb8
              have HBZ8 := Lib.hid hbz8
              clear hR2 e2 hga hb8 hbz8
              go_wp2_with fail
              go_at_call 18
              (with_reducible refine HR2.out.mono ?_)
              rintro e w9 ⟨gb2, rfl, hgb, hlb2, hb9⟩
              have hbz9 : Below wz.heap.size wz w9 := HBZ8.out.trans (hb9.mono HBZ8.out.size)
              have hR3 := read_in py bfy bsy vy 12 (0 + cs5.length) (fun _ => none) (fun _ => none) [] (m : Int) w9 (HYZ.out.turned (T := fun _ => False) (Turned.of_below hbz9) (fun _ _ h => h)) hm0 (by omega) (by omega) (fun _ h => by cases h) (fun _ h => by cases h)
              have e3 : rd (fun _ => none) (fun _ => none) (m : Int) = zero32 := rfl
              rw [e3] at hR3
              have HR3 := Lib.hid hR3
              have HGB := Lib.hid hgb
              have HB9 := Lib.hid hb9
              have HBZ9 := Lib.hid hbz9
              clear hR3 e3 hgb hb9 hbz9
              go_wp2_with fail
              go_at_call 18
              (with_reducible refine HR3.out.mono ?_)
              rintro e w10 ⟨gc, rfl, hgc, hlc, hb10⟩
              have hbr10 : Below wr.heap.size wr w10 := HB8.out.trans ((HB9.out.trans (hb10.mono HB9.out.size)).mono HB8.out.size)
              have q1 := conv_blk (cap := 32) (w := w10) (((HB9.out.trans (hb10.mono HB9.out.size)).block _ (lt_of_some HGA.out)).trans HGA.out) HWLL.out
              have q2 := conv_blk (cap := 32) (w := w10) ((hb10.block _ (lt_of_some HGB.out)).trans HGB.out) HWLL.out
              have q3 := conv_blk (cap := 32) (w := w10) hgc rfl
              have q4 := HWT.out w10 hbr10
              have q5 := conv_blk (cap := 32) (w := w10) ((hbr10.block _ (lt_of_some HZR.out)).trans HZR.out) rfl
              have HB10 : Hid (Below wz.heap.size wz w10) := HBZ9.out.trans (hb10.mono HBZ9.out.size)
              clear hgc hb10 hbr10
              go_wp2_with fail
              go_roundw
              case rel => exact ⟨m + 1, by go_num, by omega, HB10.out⟩
              case measure => simp [intOf]; omega
            | some q =>
              obtain ⟨hqm, hql⟩ := lastTo_of os k m q hk1 hL
              obtain ⟨j, hj⟩ := List.getElem?_of_mem hqm
              obtain ⟨⟨gb, _⟩, _⟩ := HS.out j q hj
              have hwq : wl = q.b := by rw [HWL.out, HSL.out, hL]; rfl
              obtain ⟨qg, qo, hqA, hq0⟩ := gb 0 (q.b[0]'(by omega)) (List.getElem?_eq_getElem (by omega))
              rw [hL] at hcell
              have hcell' : wr.cell? ⟨w3.heap.size, m, none⟩ = some (.slice (some ⟨qg, qo, none⟩) 32 q.bcap) := by
                rw [← hqA, ← hql]
                exact hcell
              have HWT : Hid (∀ W, Below wr.heap.size wr W → (convert 31 9 (.slice (some ⟨qg, qo, none⟩) 32 q.bcap)).run Try.prog W = .ok (.string ⟨wl.toArray⟩) W) := fun W hb => by
                rw [hwq, ← hqA, ← hql]
                have hs1 := HWZ.out.size
                exact conv_at (gb.below (HWZ.out.trans ((HBR.out.mono hs1).trans (hb.mono (Nat.le_trans hs1 HBR.out.size)))) (Nat.le_refl _)) (by omega)
              have hne : (binOp .eql 31 (.slice (some ⟨qg, qo, none⟩) 32 q.bcap) (.slice none 0 0)).run Try.prog wr = .ok (.bool false) wr := Lib.run_eql_slice_nil wr 31 5 (some ⟨qg, qo, none⟩) 32 q.bcap 0 0 Try.underlying31
              clear hcell hL hj hqA hq0 gb hql hwq
              go_wp2_with fail
              go_at_call 18
              (with_reducible refine HR1.out.mono ?_)
              rintro e w8 ⟨ga, rfl, hga, hla, hb8⟩
              have hbz8 : Below wz.heap.size wz w8 := HBR.out.trans (hb8.mono HBR.out.size)
              have hR2 := read_in px bfx bsx vx 12 (0 + cs5.length) (fun x => (S x).or none) (fun _ => none) [] (m : Int) w8 (HXZ.out.turned (T := fun _ => False) (Turned.of_below hbz8) (fun _ _ h => h)) hm0 (by omega) (by omega) (fun l h => by
                cases hs : S (m : Int) with
                | none => rw [hs] at h; cases h
                | some l' =>
                  rw [hs] at h
                  have e : l' = l := by injection h
                  rw [← e]; exact H32.out _ l' hs) (fun _ h => by cases h)
              have e2 : rd (fun x => (S x).or none) (fun _ => none) (m : Int) = wl := by
                rw [HWL.out]
                show ((S (m : Int)).or none).getD zero32 = _
                cases S (m : Int) <;> rfl
              rw [e2] at hR2
              have HR2 := Lib.hid hR2
              have HGA := Lib.hid hga
              have HB8 := Lib.hid hb8
              have HBZ8 := Lib.hid hbz8
              clear hR2 e2 hga hb8 hbz8
              go_wp2_with fail
              go_at_call 18
              (with_reducible refine HR2.out.mono ?_)
              rintro e w9 ⟨gb2, rfl, hgb, hlb2, hb9⟩
              have hbz9 : Below wz.heap.size wz w9 := HBZ8.out.trans (hb9.mono HBZ8.out.size)
              have hR3 := read_in py bfy bsy vy 12 (0 + cs5.length) (fun _ => none) (fun _ => none) [] (m : Int) w9 (HYZ.out.turned (T := fun _ => False) (Turned.of_below hbz9) (fun _ _ h => h)) hm0 (by omega) (by omega) (fun _ h => by cases h) (fun _ h => by cases h)
              have e3 : rd (fun _ => none) (fun _ => none) (m : Int) = zero32 := rfl
              rw [e3] at hR3
              have HR3 := Lib.hid hR3
              have HGB := Lib.hid hgb
              have HB9 := Lib.hid hb9
              have HBZ9 := Lib.hid hbz9
              clear hR3 e3 hgb hb9 hbz9
              go_wp2_with fail
              go_at_call 18
              (with_reducible refine HR3.out.mono ?_)
              rintro e w10 ⟨gc, rfl, hgc, hlc, hb10⟩
              have hbr10 : Below wr.heap.size wr w10 := HB8.out.trans ((HB9.out.trans (hb10.mono HB9.out.size)).mono HB8.out.size)
              have q1 := conv_blk (cap := 32) (w := w10) (((HB9.out.trans (hb10.mono HB9.out.size)).block _ (lt_of_some HGA.out)).trans HGA.out) HWLL.out
              have q2 := conv_blk (cap := 32) (w := w10) ((hb10.block _ (lt_of_some HGB.out)).trans HGB.out) HWLL.out
              have q3 := conv_blk (cap := 32) (w := w10) hgc rfl
              have q4 := HWT.out w10 hbr10
              have q5 := conv_blk (cap := 32) (w := w10) ((hbr10.block _ (lt_of_some HZR.out)).trans HZR.out) rfl
              have HB10 : Hid (Below wz.heap.size wz w10) := HBZ9.out.trans (hb10.mono HBZ9.out.size)
              clear hgc hb10 hbr10
              go_wp2_with fail
              go_roundw
              case rel => exact ⟨m + 1, by go_num, by omega, HB10.out⟩
              case measure => simp [intOf]; omega
          · obtain rfl : m = 12 := by omega
            go_wp2_with fail
            go_ret
            exact ⟨rfl, HWZ.out.trans (hbr.mono HWZ.out.size)⟩
end Go.Proofs.Ytficckhhlhcogaa
