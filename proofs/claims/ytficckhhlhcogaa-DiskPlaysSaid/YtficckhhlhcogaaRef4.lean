/-
  The reference's Write: one call more, with bytes of its own. Conditions: those named at each contract.
-/
import Derived.Test.YtficckhhlhcogaaRef3
namespace Go.Proofs.Ytficckhhlhcogaa
open Go.RowKit Go.Maps
attribute [local go_sem ↓] Go.wp_at_zero Go.wp_at_succ

theorem run_empty (w : World) : (Instr.buildSlice 31 0 #[]).run Try.prog w = .ok (.slice (some ⟨w.heap.size, 0, none⟩) 0 0) (w.alloc (.cells #[] 5)) := by kernel_rfl
theorem run_ref_build (x : Int) (g c : Nat) (w : World) : (Instr.build 63 #[(0, .int .i64 x), (1, .slice (some ⟨g, 0, none⟩) 32 c)]).run Try.prog w = .ok (.agg #[.int .i64 x, .slice (some ⟨g, 0, none⟩) 32 c]) w := by kernel_rfl
theorem run_ref_slice (x : Int) (g c : Nat) (w : World) : (Instr.buildSlice 51 1 #[(0, .agg #[.int .i64 x, .slice (some ⟨g, 0, none⟩) 32 c])]).run Try.prog w = .ok (.slice (some ⟨w.heap.size, 0, none⟩) 1 1) (w.alloc (.cells #[.int .i64 x, .slice (some ⟨g, 0, none⟩) 32 c] 63)) := by kernel_rfl
theorem ref_load_slot {w : World} {a : Addr} {v : Value} (h : w.cell? a = some v) : (Instr.loadAt 51 (.pointer (some a))).run Try.prog w = .ok v w := by
  go_simp
theorem ref_store_slot {w : World} {a : Addr} {u : Value} {A : Option Addr} {n c : Nat} (h : w.cell? a = some u) (hf : w.frozen? a = false) : (Instr.storeAt 51 (.pointer (some a)) (.slice A n c)).run Try.prog w = .ok () (w.setCell a (.slice A n c)) := by
  go_simp
theorem info_u8 : (Try.prog.info? 5).map (fun i => (i.zero, i.size, i.bytes)) = some (some (.int .u8 0), 1, 1) := by kernel_rfl

set_option maxRecDepth 100000 in
set_option maxHeartbeats 2000000 in
theorem ref_write (Y : Nat → Prop) (p n : Nat) (vB vL : Value) (B : Int → List UInt8) (cs : List CallM) (x : Int) (l : List UInt8) (ab ao cap : Nat) (w : World) (h : RefIs w Y p n vB vL B cs) (hsep : ∀ j, Y j → ¬ refFoot p vB vL j) (hcs : cs.length ≤ 1073741824)
    (h0 : 0 ≤ x) (h1 : x < n) (hn : n ≤ 65536) (hl : l.length = 32) (hr : w.rangeAt ab ao (bytesV l)) (hab0 : vL.ownBlock ≠ some ab) :
    Calls Try.prog 11 #[.pointer (some ⟨p, 0, none⟩), .int .i64 x, .slice (some ⟨ab, ao, none⟩) 32 cap] w fun e w' => e = .returned (.int .i64 0) ∧ ∃ gy, w.heap.size ≤ gy ∧ (∃ C, w'.heap[gy]? = some (.cells C 5 (0, 0))) ∧ RefWrote w Y p n vB vL B (cs ++ [⟨false, x, l⟩]) (fun j => Y j ∨ j = gy) w' := by
  obtain ⟨hbox, ⟨bs, hB, hBs⟩, ⟨rows, hL, hLs⟩⟩ := h
  have z0 : w.cell? ⟨p, 0, none⟩ = some (.int .i64 (n : Int)) := cell_of_row _ _ 0 _ _ _ hbox
  have c2 : w.cell? ⟨p, 2, none⟩ = some vL := cell_of_row _ _ 2 _ _ _ hbox
  have fz : w.frozen? ⟨p, 2, none⟩ = false := frozen_of_row w p 2 _ _ hbox
  have lp : p < w.heap.size := World.block_lt_of_cell? w _ c2
  have np := own_ne hL hbox (by decide)
  obtain ⟨i0, hi0, hz0, hz1, hz2⟩ := info_parts info_ref_call
  obtain ⟨i1, hj0, hy0, hy1, hy2⟩ := info_parts info_u8
  have lab : ab < w.heap.size := by
    have := hr 0 _ (List.getElem?_eq_getElem (by rw [length_bytesV]; omega))
    exact World.block_lt_of_cell? w _ this
  -- the copy
  have hownE : (w.drew.alloc (.cells #[] 5)).ownsRow w.heap.size 5 1 (.slice (some ⟨w.heap.size, 0, none⟩) 0 0) 0 [] := ⟨rfl, .inr ⟨_, 0, #[], rfl, Nat.le_refl _, heap_alloc_new w.drew _, Nat.le_refl _, by unfold maxLen; omega, rfl, rfl⟩⟩
  have hS1 : (w.drew.alloc (.cells #[] 5)).cell? ⟨p, 2, none⟩ = some vL ∧ (w.drew.alloc (.cells #[] 5)).rangeAt ab ao (bytesV l) := ⟨(World.cell?_alloc_lt w.drew _ _ lp).trans c2, World.rangeAt_alloc (w := w.drew) hr _⟩
  obtain ⟨gy, cy, W2, hapY, hownY, hgrowY, hatY, hltY⟩ := run_append_lies (P := Try.prog) (w.drew.alloc (.cells #[] 5)) 31 31 w.heap.size 5 i1 _ 1 1 Try.underlying31 hj0 hy0 hy1 hy2 (by rfl) (by omega) (.slice (some ⟨w.heap.size, 0, none⟩) 0 0) 0 [] hownE ⟨ab, ao, none⟩ 32 cap (bytesV l) (by rw [length_bytesV]; omega) (fun j u hu => by rw [Addr.add_mid]; exact hS1.2 j u hu) oneCell_bytesV (by omega) (by unfold maxLen; omega) (by omega) (by simp) _ rfl
  have hbY : Below w.heap.size w W2 := ((Below.refl w.heap.size w).drew.alloc (Nat.le_refl _) _).grown hgrowY (by simp) (fun k hk => by have e : some w.heap.size = some k := hk; injection e with e; omega)
  have hgy : w.heap.size ≤ gy := by
    obtain ⟨g', _, e, h1, _⟩ := hownY.form (by omega)
    injection e with e
    injection e with e
    rw [(Addr.mk.inj e).1]
    exact h1
  have hS2 : W2.cell? ⟨p, 2, none⟩ = some vL ∧ W2.rangeAt ab ao (bytesV l) := ⟨(hbY.cell (p := ⟨p, 2, none⟩) lp).trans c2, fun j u hu => (hbY.cell (p := ⟨ab, ao + j, none⟩) lab).trans (hr j u hu)⟩
  have hf2 : W2.frozen? ⟨p, 2, none⟩ = false := (World.frozen?_of_block (hbY.block p lp)).trans fz
  have hO2 := ownsRow_turned hL (Turned.of_below (S := fun _ => False) hbY) (fun _ _ h => h)
  have hs2 := hbY.size
  have hb3 : Below w.heap.size w (W2.alloc (.cells #[.int .i64 x, .slice (some ⟨gy, 0, none⟩) 32 cy] 63)) := hbY.alloc hs2 _
  have hS3 : (W2.alloc (.cells #[.int .i64 x, .slice (some ⟨gy, 0, none⟩) 32 cy] 63)).cell? ⟨p, 2, none⟩ = some vL ∧ (W2.alloc (.cells #[.int .i64 x, .slice (some ⟨gy, 0, none⟩) 32 cy] 63)).rangeAt ab ao (bytesV l) := ⟨(hb3.cell (p := ⟨p, 2, none⟩) lp).trans c2, fun j u hu => (hb3.cell (p := ⟨ab, ao + j, none⟩) lab).trans (hr j u hu)⟩
  have hf3 : (W2.alloc (.cells #[.int .i64 x, .slice (some ⟨gy, 0, none⟩) 32 cy] 63)).frozen? ⟨p, 2, none⟩ = false := (World.frozen?_of_block (hb3.block p lp)).trans fz
  obtain ⟨gg, cap1, W4, hap, hown1, hgrow, hat, hlt⟩ := run_append_lies (P := Try.prog) (W2.alloc (.cells #[.int .i64 x, .slice (some ⟨gy, 0, none⟩) 32 cy] 63)) 51 51 0 63 i0 _ 2 32 Try.underlying51 hi0 hz0 hz1 hz2 (by rfl) (by omega) vL cs.length rows (hO2.alloc _) ⟨W2.heap.size, 0, none⟩ 1 1 [.int .i64 x, .slice (some ⟨gy, 0, none⟩) 32 cy] rfl (World.news_of_block (cs := #[.int .i64 x, .slice (some ⟨gy, 0, none⟩) 32 cy]) (t := 63) (fr := (0, 0)) (heap_alloc_new W2 _)) (by simp [Value.oneCell']) (by omega) (by unfold maxLen; omega) (by omega) (by simp) _ rfl
  have vlt : ∀ k, vL.ownBlock = some k → k < w.heap.size := fun k hk => (hL.lt k hk).2
  have c4 := cell_grown hgrow hS3.1 np
  have f4 := frozen_grown hgrow hS3.1 hf3 np
  have hab : vL.ownBlock ≠ some ab := hab0
  have hr4 : W4.rangeAt ab ao (bytesV l) := fun j u hu => cell_grown hgrow (hS3.2 j u hu) hab
  have hS4 : W4.cell? ⟨p, 2, none⟩ = some vL ∧ W4.rangeAt ab ao (bytesV l) := ⟨c4, hr4⟩
  have hcy : 32 ≤ cy ∧ cy ≤ maxLen := by
    rcases hownY.2 with ⟨h', _⟩ | ⟨g', cap', cur, h', _, _, hnc, hm, _⟩
    · simp at h'
    · simp only [Value.slice.injEq, Option.some.injEq, Addr.mk.injEq, and_true, true_and] at h'
      rw [h'.2]; exact ⟨by omega, hm⟩
  have hyb : BytesAt W4 (some ⟨gy, 0, none⟩) l := fun i b hi => by
    refine ⟨gy, 0, rfl, ?_⟩
    have h1 := hownY.cells (g := gy) rfl i (byteV b) (by simp [bytesV, hi])
    rw [Addr.add_mid] at h1
    exact cell_grown hgrow ((World.cell?_alloc_lt W2 _ _ hltY).trans h1) (fun e => by have := vlt gy e; omega)
  have hfin : RefWrote w Y p n vB vL B (cs ++ [⟨false, x, l⟩]) (fun j => Y j ∨ j = gy) (W4.setCell ⟨p, 2, none⟩ (.slice (some ⟨gg, 0, none⟩) (cs.length + 1) cap1)) :=
    ref_of (c := ⟨false, x, l⟩) (y := .slice (some ⟨gy, 0, none⟩) 32 cy) hbox hB hBs hL hLs hsep hb3 hgrow hown1 (hat.imp id (fun e => by rw [e]; simp; omega)) (fun _ h => .inl h) (fun j hj e => by
      rcases hj with hj | hj
      · exact hsep j hj (.inl e)
      · omega) (fun _ => ⟨_, cy, rfl, hyb, hl, hcy, fun g o e => by injection e with e; exact .inr (Addr.mk.inj e).1.symm⟩)
  have hgy2 : ∃ C, (W4.setCell ⟨p, 2, none⟩ (.slice (some ⟨gg, 0, none⟩) (cs.length + 1) cap1)).heap[gy]? = some (.cells C 5 (0, 0)) := by
    rcases hownY.2 with ⟨h', _⟩ | ⟨g', cap', cur, h', _, hg, _⟩
    · simp at h'
    · simp only [Value.slice.injEq, Option.some.injEq, Addr.mk.injEq, and_true, true_and] at h'
      rw [← h'.1] at hg
      refine ⟨cur, (Below.heap_setCell _ _ _ _ (fun e => ?_)).trans ((hgrow.block gy (by simp; omega) (fun e => ?_)).trans ((Below.heap_alloc W2 _ gy hltY).trans hg))⟩
      · have e' : gy = p := e
        omega
      · have := vlt gy e.symm; omega
  have HFIN := Lib.hid hfin
  have HGY2 := Lib.hid hgy2
  have HGY := Lib.hid hgy
  have hS : w.drew.cell? ⟨p, 2, none⟩ = some vL ∧ w.drew.rangeAt ab ao (bytesV l) := ⟨c2, hr⟩
  clear hfin hgy hgy2 hyb hown1 hgrow hat hlt hownY hgrowY hatY hltY hbY hb3 hO2 hL hLs hB hBs hsep hownE vlt np fz hf2 hf3 hs2
  go_enter Try.func11, Try.ntmps11
  go_wp2_with fail
  refine region_R (fun x => x.cell? ⟨p, 2, none⟩ = some vL ∧ x.rangeAt ab ao (bytesV l)) (fun i => i == 14) #[false, false, false, false, false, false, false, false, false, false, false, false, false, false, false] 15 (by kernel_rfl) rfl rfl ?_
  refine AnyR.take (i := 0) (some 20) (.move (.tmp 0)) 28 (.pointer (some ⟨p, 0, none⟩)) #[true, false, false, false, false, false, false, false, false, false, false, false, false, false, false] (by kernel_rfl) (by kernel_rfl) (by kernel_rfl) (by kernel_rfl) (by kernel_rfl) rfl (fun _ _ _ h => h) (fun w _ => rfl) hS ?_
  simp only [Act.put, List.setIfInBounds_toArray, List.set_cons_zero, List.set_cons_succ]
  refine AnyR.take (i := 1) (some 21) (.move (.tmp 0)) 28 (.pointer (some ⟨p, 0, none⟩)) #[true, true, false, false, false, false, false, false, false, false, false, false, false, false, false] (by kernel_rfl) (by kernel_rfl) (by kernel_rfl) (by kernel_rfl) (by kernel_rfl) rfl (fun _ _ _ h => h) (fun w _ => rfl) hS ?_
  simp only [Act.put, List.setIfInBounds_toArray, List.set_cons_zero, List.set_cons_succ]
  refine AnyR.take (i := 2) (some 22) (.nilCheck (.tmp 21)) 0 (.pointer (some ⟨p, 0, none⟩)) #[true, true, true, false, false, false, false, false, false, false, false, false, false, false, false] (by kernel_rfl) (by kernel_rfl) (by kernel_rfl) (by kernel_rfl) (by kernel_rfl) rfl (fun _ _ _ h => h) (fun w _ => rfl) hS ?_
  simp only [Act.put, List.setIfInBounds_toArray, List.set_cons_zero, List.set_cons_succ]
  refine AnyR.take (i := 3) (some 23) (.fieldAddr 53 (.tmp 22) 2) 0 (.pointer (some ⟨p, 2, none⟩)) #[true, true, true, true, false, false, false, false, false, false, false, false, false, false, false] (by kernel_rfl) (by kernel_rfl) (by kernel_rfl) (by kernel_rfl) (by kernel_rfl) rfl (fun _ _ _ h => h) (fun w _ => by kernel_rfl) hS ?_
  simp only [Act.put, List.setIfInBounds_toArray, List.set_cons_zero, List.set_cons_succ]
  refine AnyR.take (i := 4) (some 24) (.load 51 (.tmp 23)) 51 (vL) #[true, true, true, true, true, false, false, false, false, false, false, false, false, false, false] (by kernel_rfl) (by kernel_rfl) (by kernel_rfl) (by kernel_rfl) (by kernel_rfl) rfl (fun _ _ _ h => h) (fun w hw => val_of (ref_load_slot hw.1)) hS ?_
  simp only [Act.put, List.setIfInBounds_toArray, List.set_cons_zero, List.set_cons_succ]
  refine AnyR.take (i := 5) (some 25) (.move (.tmp 1)) 3 (.int .i64 x) #[true, true, true, true, true, true, false, false, false, false, false, false, false, false, false] (by kernel_rfl) (by kernel_rfl) (by kernel_rfl) (by kernel_rfl) (by kernel_rfl) rfl (fun _ _ _ h => h) (fun w _ => rfl) hS ?_
  simp only [Act.put, List.setIfInBounds_toArray, List.set_cons_zero, List.set_cons_succ]
  refine AnyR.take (i := 7) (some 27) (.move (.tmp 2)) 31 (.slice (some ⟨ab, ao, none⟩) 32 cap) #[true, true, true, true, true, true, false, true, false, false, false, false, false, false, false] (by kernel_rfl) (by kernel_rfl) (by kernel_rfl) (by kernel_rfl) (by kernel_rfl) rfl (fun _ _ _ h => h) (fun w _ => rfl) hS ?_
  simp only [Act.put, List.setIfInBounds_toArray, List.set_cons_zero, List.set_cons_succ]
  refine AnyR.run (i := 6) (some 26) (.buildSlice 31 0 #[]) 31 (.slice (some ⟨w.heap.size, 0, none⟩) 0 0) (w.drew.alloc (.cells #[] 5)) #[true, true, true, true, true, true, true, true, false, false, false, false, false, false, false] (by kernel_rfl) (by kernel_rfl) rfl (by kernel_rfl) (fun _ => hS1) ?_
  simp only [Act.put, List.setIfInBounds_toArray, List.set_cons_zero, List.set_cons_succ]
  refine AnyR.run (i := 8) (some 28) (.call { callee := .builtin .append, args := #[.tmp 26, .tmp 27], argTypes := #[31, 31] }) 31 (.slice (some ⟨gy, 0, none⟩) 32 cy) (W2) #[true, true, true, true, true, true, true, true, true, false, false, false, false, false, false] (by kernel_rfl) (by kernel_rfl) rfl (append_of (s := .tmp 26) (x := .tmp 27) hapY rfl rfl) (fun _ => hS2) ?_
  simp only [Act.put, List.setIfInBounds_toArray, List.set_cons_zero, List.set_cons_succ]
  refine AnyR.run (i := 9) (some 29) (.build 63 #[(0, .tmp 25), (1, .tmp 28)]) 63 (.agg #[.int .i64 x, .slice (some ⟨gy, 0, none⟩) 32 cy]) (W2) #[true, true, true, true, true, true, true, true, true, true, false, false, false, false, false] (by kernel_rfl) (by kernel_rfl) rfl (build_of (x := .tmp 25) (y := .tmp 28) (run_ref_build x gy cy W2)) (fun _ => hS2) ?_
  simp only [Act.put, List.setIfInBounds_toArray, List.set_cons_zero, List.set_cons_succ]
  refine AnyR.run (i := 10) (some 30) (.buildSlice 51 1 #[(0, .tmp 29)]) 51 (.slice (some ⟨W2.heap.size, 0, none⟩) 1 1) (W2.alloc (.cells #[.int .i64 x, .slice (some ⟨gy, 0, none⟩) 32 cy] 63)) #[true, true, true, true, true, true, true, true, true, true, true, false, false, false, false] (by kernel_rfl) (by kernel_rfl) rfl (slice_of (x := .tmp 29) (run_ref_slice x gy cy W2)) (fun _ => hS3) ?_
  simp only [Act.put, List.setIfInBounds_toArray, List.set_cons_zero, List.set_cons_succ]
  refine AnyR.run (i := 11) (some 31) (.call { callee := .builtin .append, args := #[.tmp 24, .tmp 30], argTypes := #[51, 51] }) 51 (.slice (some ⟨gg, 0, none⟩) (cs.length + 1) cap1) (W4) #[true, true, true, true, true, true, true, true, true, true, true, true, false, false, false] (by kernel_rfl) (by kernel_rfl) rfl (append_of (s := .tmp 24) (x := .tmp 30) hap rfl rfl) (fun _ => hS4) ?_
  simp only [Act.put, List.setIfInBounds_toArray, List.set_cons_zero, List.set_cons_succ]
  refine AnyR.run (i := 12) (some 32) (.nilCheck (.tmp 20)) 0 (.pointer (some ⟨p, 0, none⟩)) (W4) #[true, true, true, true, true, true, true, true, true, true, true, true, true, false, false] (by kernel_rfl) (by kernel_rfl) rfl (rfl) (fun _ => hS4) ?_
  simp only [Act.put, List.setIfInBounds_toArray, List.set_cons_zero, List.set_cons_succ]
  refine AnyR.run (i := 13) (some 33) (.fieldAddr 53 (.tmp 32) 2) 0 (.pointer (some ⟨p, 2, none⟩)) (W4) #[true, true, true, true, true, true, true, true, true, true, true, true, true, true, false] (by kernel_rfl) (by kernel_rfl) rfl (by kernel_rfl) (fun _ => hS4) ?_
  simp only [Act.put, List.setIfInBounds_toArray, List.set_cons_zero, List.set_cons_succ]
  refine AnyR.runSkip (i := 14) none (.store 51 (.tmp 33) (.tmp 31)) 0 (W4.setCell ⟨p, 2, none⟩ (.slice (some ⟨gg, 0, none⟩) (cs.length + 1) cap1)) #[true, true, true, true, true, true, true, true, true, true, true, true, true, true, true] (by kernel_rfl) (by kernel_rfl) rfl (skip_of (ref_store_slot c4 f4)) (fun h => by cases h) ?_
  refine AnyR.none (by kernel_rfl) ?_ _
  go_wp2
  go_ret
  exact ⟨rfl, gy, HGY.out, HGY2.out, HFIN.out⟩
end Go.Proofs.Ytficckhhlhcogaa
