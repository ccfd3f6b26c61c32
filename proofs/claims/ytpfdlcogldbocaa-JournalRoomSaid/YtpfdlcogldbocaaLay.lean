/-
  What lay of package disk does: a write's first bytes go into its block; a Sync does nothing. Conditions: the map lies in memory as MapIs says, its blocks and the call's have 32 bytes.
-/
import Derived.Test.YtpfdlcogldbocaaCut1
import Derived.Laws.CopyOwn
namespace Go.Proofs.Ytpfdlcogldbocaa
open Go.RowKit Go.Maps

def tear (k : Nat) (old new : List UInt8) : List UInt8 := new.take k ++ old.drop k
theorem length_tear {k : Nat} {old new : List UInt8} (ho : old.length = 32) (hn : new.length = 32) (hk : k ≤ 32) : (tear k old new).length = 32 := by
  simp [tear]; omega
theorem tear_all {old new : List UInt8} (ho : old.length = 32) (hn : new.length = 32) : tear 32 old new = new := by
  unfold tear
  rw [List.take_of_length_le (by omega), List.drop_eq_nil_of_le (by omega), List.append_nil]

/-- What one call lays over a map of blocks. -/
def laid (f : Int → Option (List UInt8)) (c : CallM) (k : Nat) : Int → Option (List UInt8) := if c.sync then f else upd f c.n (tear k ((f c.n).getD zero32) c.bytes)
theorem laid_sync {f : Int → Option (List UInt8)} {c : CallM} {k : Nat} (h : c.sync = true) : laid f c k = f := by unfold laid; rw [if_pos h]
theorem laid_write {f : Int → Option (List UInt8)} {x : Int} {l : List UInt8} {k : Nat} : laid f ⟨false, x, l⟩ k = upd f x (tear k ((f x).getD zero32) l) := rfl
theorem getD32 {f : Int → Option (List UInt8)} (hf : Blocks32 f) (x : Int) : ((f x).getD zero32).length = 32 := by
  cases h : f x with
  | none => rfl
  | some l => exact hf x l h
theorem blocks32_upd {f : Int → Option (List UInt8)} (hf : Blocks32 f) {x : Int} {l : List UInt8} (hl : l.length = 32) : Blocks32 (upd f x l) := by
  intro y m hy
  by_cases e : y = x
  · subst e
    rw [upd_same] at hy
    injection hy with hy
    rw [← hy]; exact hl
  · rw [upd_other _ _ _ e] at hy
    exact hf y m hy
theorem blocks32_laid {f : Int → Option (List UInt8)} (hf : Blocks32 f) {c : CallM} (hc : c.ok) {k : Nat} (hk : k ≤ 32) : Blocks32 (laid f c k) := by
  unfold laid
  split
  · exact hf
  · exact blocks32_upd hf (length_tear (getD32 hf _) hc.1 hk)

def LaidIs (w : World) (b n : Nat) (f : Int → Option (List UInt8)) (e : Ending) (w' : World) : Prop :=
  e = .returned (.tuple #[]) ∧ MapIs Try.prog 3 w' b n f ∧ Turned (fun k => k = b) w w'

theorem copy_of {P : Program} {w w' : World} {v u r : Value} {ρ : Operand → Value} {s x : Operand} {t ty : TypeId} {d : Option Tmp} (h : (Builtin.copy_ #[t, t] ty #[ρ s, ρ x]).run P w = .ok r w') (hv : ρ s = v) (hu : ρ x = u) :
    (execOp ρ { dst := d, op := .call { callee := .builtin .copy, args := #[s, x], argTypes := #[t, t] }, type := ty, pos := "", after := #[], guard := none }).run P w = .ok (.value r) w' := by
  have _ := hv
  have _ := hu
  unfold execOp
  simp [resolve, invoke, builtin, h, Result.andThen]

theorem size_byte : (Try.prog.info? 5).map (·.size) = some 1 := by kernel_rfl
theorem run_slice_to (g k : Nat) (hk : k ≤ 32) (w : World) : (Instr.sliceAt 81 (.pointer (some ⟨g, 0, none⟩)) none (some (.int .i64 (k : Int))) none).run Try.prog w = .ok (.slice (some ⟨g, 0, none⟩) k 32) w := by
  have h1 : (k : Int) ≤ 32 := by omega
  have h0 : (0 : Int) ≤ (k : Int) := by omega
  go_simp
theorem run_slice_all (g o : Nat) (w : World) : (Instr.sliceAt 81 (.pointer (some ⟨g, o, none⟩)) none none none).run Try.prog w = .ok (.slice (some ⟨g, o, none⟩) 32 32) w := by
  go_simp

theorem lay_sync (b n : Nat) (f : Int → Option (List UInt8)) (x : Int) (l : List UInt8) (k : Value) (w : World) (h : MapIs Try.prog 3 w b n f) :
    Calls Try.prog 50 #[.map (some b), callV ⟨true, x, l⟩, k] w (LaidIs w b n f) := by
  have H := Lib.hid h
  have hc0 : (w.alloc (.cells (CallM.cells ⟨true, x, l⟩).toArray 86)).cell? ⟨w.heap.size, 0, none⟩ = some (.bool true) := by rw [cell_of_row _ _ 0 _ _ _ (heap_alloc_new w _)]; rfl
  clear h
  unfold callV
  go_enter Try.func50, Try.ntmps50
  go_wp2
  refine bodyPost_ret (results_none rfl _ _ _) rfl ?_
  exact ⟨rfl, H.out.same (Below.heap_alloc _ _ _ H.out.lt), Turned.of_below ((Below.refl _ _).alloc (Nat.le_refl _) _)⟩

theorem wpList_store_new_at {P : Program} {ops : Array Oper} {rest : List Oper} {d : Option Tmp} {ty tt : TypeId} {ps : String} {af : Array Edge} {a : Act} {w : World} {Q : Exit → Act → World → Prop} {x y : Tmp} {g : Nat} {c cells : Array Value}
    (hg : w.heap.size = g) (hx : a.eval (.tmp x) = .pointer (some ⟨g, 0, none⟩)) (hy : a.eval (.tmp y) = .agg cells)
    (hi : (P.info? ty).map (·.size) = some cells.size) (hc : c.size = cells.size) (h1 : cells.all (·.oneCell') = true)
    (h : wpList P ops Q rest (a.put d undef) (w.alloc (.cells cells ty))) : wpList P ops Q ({ dst := d, op := .store ty (.tmp x) (.tmp y), type := tt, pos := ps, after := af, guard := none } :: rest) a (w.alloc (.cells c ty)) := by
  subst hg
  exact wpList_store_new hx hy hi hc h1 h

/-- 'm[k] = v' where the map holds blocks. -/
theorem wpList_put_blk {P : Program} {k t e : TypeId} {w : World} {ops : Array Oper} {rest : List Oper} {dd : Option Tmp} {tt : TypeId} {ps : String} {af : Array Edge} {a : Act} {Q : Exit → Act → World → Prop} {m x v : Tmp} {b n : Nat} {f : Int → Option (List UInt8)} {y : Int} {l : List UInt8}
    (hk : P.underlying k = some (.int .i64)) (ht : P.underlying t = some (.map k e)) (hm : a.eval (.tmp m) = .map (some b)) (hx : a.eval (.tmp x) = .int .i64 y) (hv : a.eval (.tmp v) = .agg (bytesV l).toArray) (h : MapIs P k w b n f) (hn : n < maxLen) (hy : (Lit.int .i64 y).wf = true)
    (hK : ∀ w', MapIs P k w' b (n + 1) (upd f y l) → w.grownBy w' (some b) → wpList P ops Q rest (a.put dd undef) w') :
    wpList P ops Q ({ dst := dd, op := .mapUpdate t (.tmp m) (.tmp x) (.tmp v), type := tt, pos := ps, after := af, guard := none } :: rest) a w :=
  wpList_mapUpdate_is rfl (.tmp m) (.tmp x) (.tmp v) t rfl e hk ht b n f hm h hn y l hx hv hy hK

set_option maxRecDepth 100000 in
set_option maxHeartbeats 1000000 in
theorem lay_write (b n : Nat) (f : Int → Option (List UInt8)) (x : Int) (l : List UInt8) (k : Nat) (w : World) (h : MapIs Try.prog 3 w b n f) (hf : Blocks32 f) (hl : l.length = 32) (hk : k ≤ 32) (hx : (Lit.int .i64 x).wf = true) (hn : n < 1099511627776) :
    Calls Try.prog 50 #[.map (some b), callV ⟨false, x, l⟩, .int .i64 (k : Int)] w (LaidIs w b (n + 1) (upd f x (tear k ((f x).getD zero32) l))) := by
  obtain ⟨C, hC⟩ : ∃ C, C = (CallM.cells ⟨false, x, l⟩).toArray := ⟨_, rfl⟩
  obtain ⟨old, hold⟩ : ∃ old, old = (f x).getD zero32 := ⟨_, rfl⟩
  have hol : old.length = 32 := by rw [hold]; exact getD32 hf x
  have h1 : MapIs Try.prog 3 (w.alloc (.cells C 86)) b n f := h.same (Below.heap_alloc _ _ _ h.lt)
  have L := h1.look (t := 68) Try.underlying3 Try.underlying68 zeroBlock hx
  rw [← hold] at L
  unfold blk at L
  have hc0 : (w.alloc (.cells C 86)).cell? ⟨w.heap.size, 0, none⟩ = some (.bool false) := by rw [cell_of_row _ _ 0 _ _ _ (heap_alloc_new w _), hC]; rfl
  have hc1 : (w.alloc (.cells C 86)).cell? ⟨w.heap.size, 1, none⟩ = some (.int .i64 x) := by rw [cell_of_row _ _ 1 _ _ _ (heap_alloc_new w _), hC]; rfl
  obtain ⟨W2, hW2⟩ : ∃ W2, W2 = (w.alloc (.cells C 86)).alloc (.cells (bytesV old).toArray 81) := ⟨_, rfl⟩
  have s1 : (w.alloc (.cells C 86)).heap.size = w.heap.size + 1 := by simp
  have g2 : W2.heap[w.heap.size + 1]? = some (.cells (bytesV old).toArray 81 (0, 0)) := by
    have := heap_alloc_new (w.alloc (.cells C 86)) (.cells (bytesV old).toArray 81)
    rw [s1, ← hW2] at this
    exact this
  have g1 : W2.heap[w.heap.size]? = some (.cells C 86 (0, 0)) := by
    rw [hW2, Below.heap_alloc _ _ _ (by simp)]
    exact heap_alloc_new w _
  have m2 : MapIs Try.prog 3 W2 b n f := by
    rw [hW2]
    exact h1.same (Below.heap_alloc _ _ _ h1.lt)
  have t2 : Below w.heap.size w W2 := by
    rw [hW2]
    exact ((Below.refl _ _).alloc (Nat.le_refl _) _).alloc (by simp) _
  have hcp := run_copy_row (P := Try.prog) W2.drew 39 39 3 5 (w.heap.size + 1) 0 k 32 ⟨w.heap.size, 2, none⟩ 32 32 (bytesV old).toArray 81 (bytesV (l.take k)) Try.underlying39 size_byte g2
    (by rw [length_bytesV, List.length_take, hl]; exact Nat.min_comm k 32) (fun j v hv => by
      rw [Addr.add_mid, cell_of_row W2.drew _ _ _ _ _ g1, hC]
      rw [← bytesV_take, List.getElem?_take] at hv
      split at hv
      · rw [Nat.add_comm]; simpa [CallM.cells] using hv
      · cases hv) (by simp [length_bytesV, hl, hol]; omega) oneCell_bytesV
  have ecp : ((bytesV old).toArray.toList.take 0 ++ bytesV (l.take k) ++ (bytesV old).toArray.toList.drop (0 + (bytesV (l.take k)).length)) = bytesV (tear k old l) := by
    simp [tear, bytesV_append, bytesV_drop, length_bytesV, hl]
    rw [Nat.min_eq_left hk]
  rw [ecp] at hcp
  obtain ⟨w3, hw3⟩ : ∃ w3, w3 = W2.drew.setRow (w.heap.size + 1) (bytesV (tear k old l)).toArray := ⟨_, rfl⟩
  rw [← hw3] at hcp
  have k2 : w3.heap[w.heap.size + 1]? = some (.cells (bytesV (tear k old l)).toArray 81 (0, 0)) := by rw [hw3]; exact setRow_heap _ _ _ _ _ _ g2
  have k1 : w3.heap[w.heap.size]? = some (.cells C 86 (0, 0)) := by rw [hw3, setRow_other _ _ _ _ (by omega)]; exact g1
  have kc1 : w3.cell? ⟨w.heap.size, 1, none⟩ = some (.int .i64 x) := by rw [cell_of_row _ _ 1 _ _ _ k1, hC]; rfl
  have lb := h.lt
  have m3 : MapIs Try.prog 3 w3 b n f := by
    rw [hw3]
    exact (m2.same (w' := W2.drew) rfl).same (setRow_other _ _ _ _ (by omega))
  have t3 : Below w.heap.size w w3 := by
    rw [hw3]
    exact below_setRow t2.drew (by omega) _
  have HCP := Lib.hid hcp
  have K2 := Lib.hid k2
  have M3 := Lib.hid m3
  have T3 := Lib.hid t3
  have SL1 := Lib.hid (run_slice_to (w.heap.size + 1) k hk)
  have SL2 := Lib.hid (run_slice_all w.heap.size 2)
  have hI : (Try.prog.info? 81).map (·.size) = some (bytesV old).toArray.size := by rw [size_block]; simp [length_bytesV, hol]
  have hI3 : (Try.prog.info? 81).map (·.size) = some (bytesV (tear k old l)).toArray.size := by rw [size_block]; simp [length_bytesV, length_tear hol hl hk]
  have hZ : 32 = (bytesV old).toArray.size := by simp [length_bytesV, hol]
  have HI := Lib.hid hI
  have HI3 := Lib.hid hI3
  have HZ := Lib.hid hZ
  have HW2 := Lib.hid hW2
  have HCC := Lib.hid hC
  rw [← hold]
  have hck : callV ⟨false, x, l⟩ = .agg C := by rw [hC]; rfl
  rw [hck]
  clear hcp ecp hw3 k2 m3 t3 hI hI3 hZ h1 m2 t2 g1 g2 h hf hold hol hl s1 hW2 hC hck k1
  go_enter Try.func50, Try.ntmps50
  go_wp2_with (refine wpList_store_new_at (x := 6) (y := 12) (cells := (bytesV old).toArray) (by simp) rfl rfl HI.out HZ.out (all_bytesV _) ?_)
  rw [← HW2.out]
  refine region_R (fun _ => True) (fun _ => false) #[false, false, false, false, false] 5 (by kernel_rfl) rfl rfl ?_
  refine AnyR.take (i := 0) (some 13) (.move (.tmp 2)) 3 (.int .i64 (k : Int)) #[true, false, false, false, false] (by kernel_rfl) (by kernel_rfl) (by kernel_rfl) (by kernel_rfl) (by kernel_rfl) rfl (fun _ _ _ h => h) (fun w _ => rfl) trivial ?_
  simp only [Act.put, List.setIfInBounds_toArray, List.set_cons_zero, List.set_cons_succ]
  refine AnyR.take (i := 1) (some 14) (.slice 81 (.tmp 6) none (some (.tmp 13)) none) 39 (.slice (some ⟨w.heap.size + 1, 0, none⟩) k 32) #[true, true, false, false, false] (by kernel_rfl) (by kernel_rfl) (by kernel_rfl) (by kernel_rfl) (by kernel_rfl) rfl (fun _ _ _ h => h) (fun w _ => val_of (SL1.out w)) trivial ?_
  simp only [Act.put, List.setIfInBounds_toArray, List.set_cons_zero, List.set_cons_succ]
  refine AnyR.take (i := 2) (some 15) (.fieldAddr 86 (.tmp 4) 2) 0 (.pointer (some ⟨w.heap.size, 2, none⟩)) #[true, true, true, false, false] (by kernel_rfl) (by kernel_rfl) (by kernel_rfl) (by kernel_rfl) (by kernel_rfl) rfl (fun _ _ _ h => h) (fun w _ => by kernel_rfl) trivial ?_
  simp only [Act.put, List.setIfInBounds_toArray, List.set_cons_zero, List.set_cons_succ]
  refine AnyR.take (i := 3) (some 16) (.slice 81 (.tmp 15) none none none) 39 (.slice (some ⟨w.heap.size, 2, none⟩) 32 32) #[true, true, true, true, false] (by kernel_rfl) (by kernel_rfl) (by kernel_rfl) (by kernel_rfl) (by kernel_rfl) rfl (fun _ _ _ h => h) (fun w _ => val_of (SL2.out w)) trivial ?_
  simp only [Act.put, List.setIfInBounds_toArray, List.set_cons_zero, List.set_cons_succ]
  refine AnyR.run (i := 4) (some 17) (.call { callee := .builtin .copy, args := #[.tmp 14, .tmp 16], argTypes := #[39, 39] }) 3 (goInt (bytesV (l.take k)).length) w3 #[true, true, true, true, true] (by kernel_rfl) (by kernel_rfl) rfl (copy_of (s := .tmp 14) (x := .tmp 16) (HCP.out) rfl rfl) (fun _ => trivial) ?_
  simp only [Act.put, List.setIfInBounds_toArray, List.set_cons_zero, List.set_cons_succ]
  refine AnyR.none (by kernel_rfl) ?_ _
  go_wp2_with (first
    | (refine wpList_load_blk (x := 6) (cs := (bytesV (tear k old l)).toArray) (t' := 81) rfl K2.out Try.underlying81 HI3.out ?_)
    | (refine wpList_put_blk (m := 18) (x := 20) (v := 21) (l := tear k old l) Try.underlying3 Try.underlying68 rfl rfl rfl M3.out (by unfold maxLen; omega) hx ?_; intro w4 hm4 hg4))
  refine bodyPost_ret (results_none rfl _ _ _) rfl ?_
  refine ⟨rfl, hm4, ⟨hg4.os.trans T3.out.os, hg4.tape.trans T3.out.tape, hg4.output.trans T3.out.output, Nat.le_trans T3.out.size hg4.size, fun i hi hne => (hg4.block i (Nat.lt_of_lt_of_le hi T3.out.size) (fun e => hne (by injection e))).trans (T3.out.block i hi)⟩⟩
end Go.Proofs.Ytpfdlcogldbocaa
