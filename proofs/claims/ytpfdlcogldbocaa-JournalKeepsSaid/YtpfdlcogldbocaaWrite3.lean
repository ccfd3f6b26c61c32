/-
  The walks of Write and Sync of package disk: the disk holds what was written, and one call more. Conditions: the disk lies in memory as DiskIs says; the bytes written are 32, and lie outside the disk; fewer than 2^40 calls.
-/
import Derived.Test.YtpfdlcogldbocaaWrite
import Derived.Test.YtpfdlcogldbocaaRegion
namespace Go.Proofs.Ytpfdlcogldbocaa
open Go.RowKit Go.Maps
attribute [local go_sem ↓] Go.wp_at_zero Go.wp_at_succ

set_option maxRecDepth 100000 in
set_option maxHeartbeats 1000000 in
theorem sync_in (p bf bs : Nat) (v : Value) (n kf : Nat) (F S : Int → Option (List UInt8)) (cs : List CallM) (w : World) (h : DiskIs w p bf bs v n kf F S cs) (hcs : cs.length < 1099511627776) :
    Calls Try.prog 45 #[.pointer (some ⟨p, 0, none⟩)] w (Wrote w p bf bs v n kf F S (cs ++ [syncM])) := by
  have hd := Lib.hid h
  have c3 := h.cell3
  have lp := World.block_lt_of_cell? w _ c3
  have np := own_ne h.2.2.2.1 h.1 (by decide)
  have own := h.2.2.2.1
  obtain ⟨i0, hi0, hz0, hz1, hz2⟩ := info_parts info_call
  have hb := run_build_sync
  have hs := run_slice_call syncM syncOk
  have fz : w.frozen? ⟨p, 3, none⟩ = false := frozen_of_row w p 3 _ _ h.1
  have e34 := CallM.length_cells syncOk
  have HO := Lib.hid own
  have HN := Lib.hid np
  have H34 := Lib.hid e34
  have HCS := Lib.hid hcs
  clear h own np e34 hcs
  go_enter Try.func45, Try.ntmps45
  go_wp2_with (at_builtin; refine wpList_append_lies _ rfl _ _ _ rfl 0 86 i0 _ 34 48 Try.underlying82 hi0 hz0 hz1 hz2 (by rfl) (by omega) v cs.length (callsV cs) rfl (HO.out.alloc _) ⟨w.heap.size, 0, none⟩ 1 1 syncM.cells rfl (by rw [H34.out]) (World.news_of_block (cs := syncM.cells.toArray) (t := 86) (fr := (0, 0)) (heap_alloc_new w _)) CallM.oneCell (by omega) (by have := HCS.out; unfold maxLen; omega) (by have := HCS.out; omega) (by omega) (w.heap.size + 1) (by simp) ?_; intro gg cap w1 hown1 hgrow hat hlt; have c3' := cell_behind hgrow c3 HN.out; have f3' := frozen_behind hgrow c3 fz HN.out)
  go_ret
  refine disk_of hd.out syncOk ((hd.out.2.2.1).mono (Nat.le_succ _)) (Turned.refl _ _) hown1 (turned_behind hgrow) (hat.imp id (fun e => by omega))

theorem run_arrayAt (ab ao cap : Nat) (w : World) : (Instr.arrayAt 81 (.slice (some ⟨ab, ao, none⟩) 32 cap)).run Try.prog w = .ok (.pointer (some ⟨ab, ao, none⟩)) w := by
  simp [Instr.arrayAt, run_underlying Try.underlying81]

set_option maxRecDepth 100000 in
set_option maxHeartbeats 2000000 in
theorem write_in (p bf bs : Nat) (v : Value) (n kf : Nat) (F S : Int → Option (List UInt8)) (cs : List CallM) (x : Int) (l : List UInt8) (ab ao cap : Nat) (w : World) (h : DiskIs w p bf bs v n kf F S cs) (hcs : cs.length < 1099511627776)
    (h0 : 0 ≤ x) (h1 : x < n) (hn : n ≤ 65536) (hl : l.length = 32) (hr : w.rangeAt ab ao (bytesV l)) (hab : ¬ foot p bf bs v ab) (hcap : 32 ≤ cap) :
    Calls Try.prog 16 #[.pointer (some ⟨p, 0, none⟩), .int .i64 x, .slice (some ⟨ab, ao, none⟩) 32 cap] w (Wrote w p bf bs v n kf F (upd S x l) (cs ++ [⟨false, x, l⟩])) := by
  have hd := Lib.hid h
  have HC := Lib.hid h.cell0
  have c2 := h.cell2
  have hx : (Lit.int .i64 x).wf = true := by go_wf
  have hok := callOk x l hl hx
  obtain ⟨es, ck, hbs⟩ := h.2.2.1.obj
  have pbs := h.2.2.1.ne_cells h.1
  obtain ⟨w1, hrun, hm1, hg1⟩ := MapIs.store (w := w.drew) (t := 68) (e := 81) (h.2.2.1.same rfl) Try.underlying3 Try.underlying68 (by unfold maxLen; omega) hx l
  have t1 : Turned (fun k => k = bs) w w1 := Turned.of_grown (a := w) ⟨hg1.os, hg1.tape, hg1.output, hg1.size, hg1.block⟩ (fun k hk => by injection hk with hk; exact hk.symm)
  have nab : ab ≠ bs := fun e => hab (.inr (.inr (.inl e)))
  have hr1 : w1.rangeAt ab ao (bytesV l) := fun j u hu => t1.cell (hr j u hu) nab
  have k2 : w1.cell? ⟨p, 2, none⟩ = some (.map (some bs)) := t1.cell c2 pbs
  have k3 : w1.cell? ⟨p, 3, none⟩ = some v := t1.cell h.cell3 pbs
  have kf3 : w1.frozen? ⟨p, 3, none⟩ = false := frozen_of_row w1 p 3 _ _ (t1.obj h.1 pbs)
  have np := own_ne h.2.2.2.1 h.1 (by decide)
  have own1 := ownsRow_turned h.2.2.2.1 t1 (fun k hk e => own_ne_map h.2.2.2.1 hbs (by rw [hk, e]))
  have nva : v.ownBlock ≠ some ab := fun e => hab (.inr (.inr (.inr e)))
  have lp := World.block_lt_of_cell? w1 _ k3
  have lab : ab < w1.heap.size := by
    have := hr1 0 _ (List.getElem?_eq_getElem (by rw [length_bytesV]; omega))
    exact World.block_lt_of_cell? w1 _ this
  obtain ⟨i0, hi0, hz0, hz1, hz2⟩ := info_parts info_call
  have HB := Lib.hid (run_build_call x l hl)
  have HSL := Lib.hid (run_slice_call ⟨false, x, l⟩ hok)
  have e34 := CallM.length_cells hok
  have HI : (Try.prog.info? 81).map (·.size) = some (bytesV l).length := by rw [size_block, length_bytesV, hl]
  have hu := Try.underlying81
  unfold blk at hrun
  have HO := Lib.hid own1
  have HN := Lib.hid np
  have HA := Lib.hid nva
  have H34 := Lib.hid e34
  have HCS := Lib.hid hcs
  have HM := Lib.hid hm1
  have HT := Lib.hid t1
  have HG1 := Lib.hid hg1
  have HR1 := Lib.hid hr1
  have HOK := Lib.hid hok
  have har := run_arrayAt ab ao cap
  have a1 : ∀ o, (w1.alloc o).cell? ⟨p, 3, none⟩ = some v := fun o => (World.cell?_alloc_lt w1 _ _ lp).trans k3
  have a2 : ∀ o, (w1.alloc o).frozen? ⟨p, 3, none⟩ = false := fun o => (World.frozen?_of_block (Below.heap_alloc w1 o p lp)).trans kf3
  have a3 : ∀ o, (w1.alloc o).rangeAt ab ao (bytesV l) := fun o => World.rangeAt_alloc hr1 o
  have a4 : ∀ o, (w1.alloc o).cell? ⟨p, 2, none⟩ = some (.map (some bs)) := fun o => (World.cell?_alloc_lt w1 _ _ (World.block_lt_of_cell? w1 _ k2)).trans k2
  have A4 := Lib.hid a4
  clear a4
  have A1 := Lib.hid a1
  have A2 := Lib.hid a2
  have A3 := Lib.hid a3
  clear a1 a2 a3
  have npa : ∀ j, (⟨p, 3, none⟩ : Addr) ≠ ⟨ab, ao + j, none⟩ := fun j e => hab (.inl (congrArg Addr.block e).symm)
  have NP := Lib.hid npa
  clear npa
  clear hab
  have hcap' : (32 : Int) ≤ (cap : Int) := by omega
  clear h own1 np nva hcs hm1 t1 hg1 hok hl hbs
  go_enter Try.func16, Try.ntmps16
  go_wp2_with (go_at_call 46; refine (has_yes p n _ _ HC.out h0 h1).mono ?_; rintro e w' ⟨rfl, rfl⟩)
  go_region_held3 (fun w' => w'.cell? ⟨p, 2, none⟩ = some (.map (some bs)) ∧ w'.rangeAt ab ao (bytesV l))
    (first
      | (go_split_ands; refine ⟨?_, ?_⟩ <;> assumption)
      | (go_split_ands; refine ⟨by go_keep, ?_⟩; first | assumption | (simp only [World.rangeAt_drew]; assumption)))
    (fail)
  go_wp2_with fail
  refine region_R (fun x => x.cell? ⟨p, 3, none⟩ = some v ∧ x.rangeAt ab ao (bytesV l)) (fun i => i == 14) #[false, false, false, false, false, false, false, false, false, false, false, false, false, false, false] 15 (by kernel_rfl) rfl rfl ?_
  have hS : w1.drew.cell? ⟨p, 3, none⟩ = some v ∧ w1.drew.rangeAt ab ao (bytesV l) := ⟨k3, HR1.out⟩
  refine AnyR.take (i := 0) (some 24) (.move (.tmp 0)) 25 (.pointer (some ⟨p, 0, none⟩)) #[true, false, false, false, false, false, false, false, false, false, false, false, false, false, false] (by kernel_rfl) (by kernel_rfl) (by kernel_rfl) (by kernel_rfl) (by kernel_rfl) rfl (fun _ _ _ h => h) (fun w _ => rfl) hS ?_
  simp only [Act.put, List.setIfInBounds_toArray, List.set_cons_zero, List.set_cons_succ]
  refine AnyR.take (i := 1) (some 25) (.move (.tmp 0)) 25 (.pointer (some ⟨p, 0, none⟩)) #[true, true, false, false, false, false, false, false, false, false, false, false, false, false, false] (by kernel_rfl) (by kernel_rfl) (by kernel_rfl) (by kernel_rfl) (by kernel_rfl) rfl (fun _ _ _ h => h) (fun w _ => rfl) hS ?_
  simp only [Act.put, List.setIfInBounds_toArray, List.set_cons_zero, List.set_cons_succ]
  refine AnyR.take (i := 2) (some 26) (.nilCheck (.tmp 25)) 0 (.pointer (some ⟨p, 0, none⟩)) #[true, true, true, false, false, false, false, false, false, false, false, false, false, false, false] (by kernel_rfl) (by kernel_rfl) (by kernel_rfl) (by kernel_rfl) (by kernel_rfl) rfl (fun _ _ _ h => h) (fun w _ => rfl) hS ?_
  simp only [Act.put, List.setIfInBounds_toArray, List.set_cons_zero, List.set_cons_succ]
  refine AnyR.take (i := 3) (some 27) (.fieldAddr 84 (.tmp 26) 3) 0 (.pointer (some ⟨p, 3, none⟩)) #[true, true, true, true, false, false, false, false, false, false, false, false, false, false, false] (by kernel_rfl) (by kernel_rfl) (by kernel_rfl) (by kernel_rfl) (by kernel_rfl) rfl (fun _ _ _ h => h) (fun w _ => by kernel_rfl) hS ?_
  simp only [Act.put, List.setIfInBounds_toArray, List.set_cons_zero, List.set_cons_succ]
  refine AnyR.take (i := 4) (some 28) (.load 82 (.tmp 27)) 82 (v) #[true, true, true, true, true, false, false, false, false, false, false, false, false, false, false] (by kernel_rfl) (by kernel_rfl) (by kernel_rfl) (by kernel_rfl) (by kernel_rfl) rfl (fun _ _ _ h => h) (fun w hw => val_of (load_slot hw.1)) hS ?_
  simp only [Act.put, List.setIfInBounds_toArray, List.set_cons_zero, List.set_cons_succ]
  refine AnyR.take (i := 5) (some 29) (.move (.tmp 1)) 3 (.int .i64 x) #[true, true, true, true, true, true, false, false, false, false, false, false, false, false, false] (by kernel_rfl) (by kernel_rfl) (by kernel_rfl) (by kernel_rfl) (by kernel_rfl) rfl (fun _ _ _ h => h) (fun w _ => rfl) hS ?_
  simp only [Act.put, List.setIfInBounds_toArray, List.set_cons_zero, List.set_cons_succ]
  refine AnyR.take (i := 6) (some 30) (.move (.tmp 2)) 39 (.slice (some ⟨ab, ao, none⟩) 32 cap) #[true, true, true, true, true, true, true, false, false, false, false, false, false, false, false] (by kernel_rfl) (by kernel_rfl) (by kernel_rfl) (by kernel_rfl) (by kernel_rfl) rfl (fun _ _ _ h => h) (fun w _ => rfl) hS ?_
  simp only [Act.put, List.setIfInBounds_toArray, List.set_cons_zero, List.set_cons_succ]
  refine AnyR.take (i := 7) (some 31) (.sliceToArrayPointer 81 (.tmp 30)) 0 (.pointer (some ⟨ab, ao, none⟩)) #[true, true, true, true, true, true, true, true, false, false, false, false, false, false, false] (by kernel_rfl) (by kernel_rfl) (by kernel_rfl) (by kernel_rfl) (by kernel_rfl) rfl (fun _ _ _ h => h) (fun w _ => val_of (run_arrayAt ab ao cap w)) hS ?_
  simp only [Act.put, List.setIfInBounds_toArray, List.set_cons_zero, List.set_cons_succ]
  refine AnyR.take (i := 8) (some 32) (.load 81 (.tmp 31)) 81 (.agg (bytesV l).toArray) #[true, true, true, true, true, true, true, true, true, false, false, false, false, false, false] (by kernel_rfl) (by kernel_rfl) (by kernel_rfl) (by kernel_rfl) (by kernel_rfl) rfl (fun _ _ _ h => h) (fun w hw => val_of (run_loadAt_mid w ab ao _ (bytesV l) _ hw.2 Try.underlying81 rfl HI)) hS ?_
  simp only [Act.put, List.setIfInBounds_toArray, List.set_cons_zero, List.set_cons_succ]
  refine AnyR.take (i := 9) (some 33) (.build 86 #[(1, .tmp 29), (2, .tmp 32)]) 86 (.agg (CallM.cells ⟨false, x, l⟩).toArray) #[true, true, true, true, true, true, true, true, true, true, false, false, false, false, false] (by kernel_rfl) (by kernel_rfl) (by kernel_rfl) (by kernel_rfl) (by kernel_rfl) rfl (fun _ _ _ h => h) (fun w _ => build_of (x := .tmp 29) (y := .tmp 32) (HB.out w)) hS ?_
  simp only [Act.put, List.setIfInBounds_toArray, List.set_cons_zero, List.set_cons_succ]
  refine AnyR.run (i := 10) (some 34) (.buildSlice 82 1 #[(0, .tmp 33)]) 82 (.slice (some ⟨w1.heap.size, 0, none⟩) 1 1) ((w1.alloc (.cells (CallM.cells ⟨false, x, l⟩).toArray 86)).drew) #[true, true, true, true, true, true, true, true, true, true, true, false, false, false, false] (by kernel_rfl) (by kernel_rfl) rfl (slice_of (x := .tmp 33) (HSL.out _)) (fun _ => ⟨A1.out _, A3.out _⟩) ?_
  simp only [Act.put, List.setIfInBounds_toArray, List.set_cons_zero, List.set_cons_succ]
  obtain ⟨gg, cap1, w2, hap, hown1, hgrow, hat, hlt⟩ := run_append_lies (P := Try.prog) ((w1.alloc (.cells (CallM.cells ⟨false, x, l⟩).toArray 86)).drew) 82 82 0 86 i0 _ 34 48 Try.underlying82 hi0 hz0 hz1 hz2 (by rfl) (by omega) v cs.length (callsV cs) (HO.out.alloc _) ⟨w1.heap.size, 0, none⟩ 1 1 (CallM.cells ⟨false, x, l⟩) (by rw [H34.out]) (World.news_of_block (cs := (CallM.cells ⟨false, x, l⟩).toArray) (t := 86) (fr := (0, 0)) (heap_alloc_new w1 _)) CallM.oneCell (by omega) (by have := HCS.out; unfold maxLen; omega) (by have := HCS.out; omega) (by omega) (w1.heap.size + 1) (by simp)
  have c3' := cell_grown hgrow (A1.out _) HN.out
  have f3' := frozen_grown hgrow (A1.out _) (A2.out _) HN.out
  have hS2 : w2.cell? ⟨p, 3, none⟩ = some v ∧ w2.rangeAt ab ao (bytesV l) := ⟨c3', fun j u hu => cell_grown hgrow (A3.out _ j u hu) HA.out⟩
  refine AnyR.run (i := 11) (some 35) (.call { callee := .builtin .append, args := #[.tmp 28, .tmp 34], argTypes := #[82, 82] }) 82 (.slice (some ⟨gg, 0, none⟩) (cs.length + 1) cap1) (w2) #[true, true, true, true, true, true, true, true, true, true, true, true, false, false, false] (by kernel_rfl) (by kernel_rfl) rfl (append_of (s := .tmp 28) (x := .tmp 34) hap rfl rfl) (fun _ => hS2) ?_
  simp only [Act.put, List.setIfInBounds_toArray, List.set_cons_zero, List.set_cons_succ]
  refine AnyR.run (i := 12) (some 36) (.nilCheck (.tmp 24)) 0 (.pointer (some ⟨p, 0, none⟩)) (w2) #[true, true, true, true, true, true, true, true, true, true, true, true, true, false, false] (by kernel_rfl) (by kernel_rfl) rfl (rfl) (fun _ => hS2) ?_
  simp only [Act.put, List.setIfInBounds_toArray, List.set_cons_zero, List.set_cons_succ]
  refine AnyR.run (i := 13) (some 37) (.fieldAddr 84 (.tmp 36) 3) 0 (.pointer (some ⟨p, 3, none⟩)) (w2) #[true, true, true, true, true, true, true, true, true, true, true, true, true, true, false] (by kernel_rfl) (by kernel_rfl) rfl (by kernel_rfl) (fun _ => hS2) ?_
  simp only [Act.put, List.setIfInBounds_toArray, List.set_cons_zero, List.set_cons_succ]
  refine AnyR.runSkip (i := 14) none (.store 82 (.tmp 37) (.tmp 35)) 0 (w2.setCell ⟨p, 3, none⟩ (.slice (some ⟨gg, 0, none⟩) (cs.length + 1) cap1)) #[true, true, true, true, true, true, true, true, true, true, true, true, true, true, true] (by kernel_rfl) (by kernel_rfl) rfl (skip_of (store_slot c3' f3')) (fun h => by cases h) ?_
  refine AnyR.none (by kernel_rfl) ?_ _
  go_wp2
  go_ret
  refine disk_of hd.out HOK.out HM.out HT.out hown1 (turned_grown hgrow ((Below.refl _ _).alloc (Nat.le_refl _) _).drew) (hat.imp id (fun e => by have := HT.out.size; omega))
end Go.Proofs.Ytpfdlcogldbocaa
