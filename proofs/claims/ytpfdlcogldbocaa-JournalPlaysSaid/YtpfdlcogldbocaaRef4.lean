/-
  The reference's Write: one call more, with bytes of its own. Conditions: those named at each contract.
  The reference's New. Conditions: those named at each contract.
  Bytes appended to a row of bytes that the call owns; parts of a slice of bytes; an element's address. Condition: no more than 2^47 bytes in all.
-/
import Derived.Test.YtpfdlcogldbocaaRef1
import Derived.Test.YtpfdlcogldbocaaCopy
import Derived.Laws.OwnMore
namespace Go.Proofs.Ytpfdlcogldbocaa
open Go.RowKit Go.Maps
attribute [local go_sem ↓] Go.wp_at_zero Go.wp_at_succ

theorem run_ref_build (x : Int) (g c : Nat) (w : World) : (Instr.build 79 #[(0, .int .i64 x), (1, .slice (some ⟨g, 0, none⟩) 32 c)]).run Try.prog w = .ok (.agg #[.int .i64 x, .slice (some ⟨g, 0, none⟩) 32 c]) w := by kernel_rfl
theorem run_ref_slice (x : Int) (g c : Nat) (w : World) : (Instr.buildSlice 50 1 #[(0, .agg #[.int .i64 x, .slice (some ⟨g, 0, none⟩) 32 c])]).run Try.prog w = .ok (.slice (some ⟨w.heap.size, 0, none⟩) 1 1) (w.alloc (.cells #[.int .i64 x, .slice (some ⟨g, 0, none⟩) 32 c] 79)) := by kernel_rfl
theorem ref_load_slot {w : World} {a : Addr} {v : Value} (h : w.cell? a = some v) : (Instr.loadAt 50 (.pointer (some a))).run Try.prog w = .ok v w := by
  go_simp
theorem ref_store_slot {w : World} {a : Addr} {u : Value} {A : Option Addr} {n c : Nat} (h : w.cell? a = some u) (hf : w.frozen? a = false) : (Instr.storeAt 50 (.pointer (some a)) (.slice A n c)).run Try.prog w = .ok () (w.setCell a (.slice A n c)) := by
  go_simp

set_option maxRecDepth 100000 in
set_option maxHeartbeats 2000000 in
theorem ref_write (Y : Nat → Prop) (p n : Nat) (vB vL : Value) (B : Int → List UInt8) (cs : List CallM) (x : Int) (l : List UInt8) (ab ao cap : Nat) (w : World) (h : RefIs w Y p n vB vL B cs) (hsep : ∀ j, Y j → ¬ refFoot p vB vL j) (hcs : cs.length ≤ 1073741824)
    (h0 : 0 ≤ x) (h1 : x < n) (_hn : n ≤ 65536) (hl : l.length = 32) (hr : w.rangeAt ab ao (bytesV l)) (hab0 : vL.ownBlock ≠ some ab) :
    Calls Try.prog 17 #[.pointer (some ⟨p, 0, none⟩), .int .i64 x, .slice (some ⟨ab, ao, none⟩) 32 cap] w fun e w' => e = .returned (.int .i64 0) ∧ ∃ gy, w.heap.size ≤ gy ∧ (∃ C, w'.heap[gy]? = some (.cells C 5 (0, 0))) ∧ RefWrote w Y p n vB vL B (cs ++ [⟨false, x, l⟩]) (fun j => Y j ∨ j = gy) w' := by
  obtain ⟨hbox, ⟨bs, hB, hBs⟩, ⟨rows, hL, hLs⟩⟩ := h
  have z0 : w.cell? ⟨p, 0, none⟩ = some (.int .i64 (n : Int)) := cell_of_row _ _ 0 _ _ _ hbox
  have c2 : w.cell? ⟨p, 2, none⟩ = some vL := cell_of_row _ _ 2 _ _ _ hbox
  have fz : w.frozen? ⟨p, 2, none⟩ = false := frozen_of_row w p 2 _ _ hbox
  have lp : p < w.heap.size := World.block_lt_of_cell? w _ c2
  have np := own_ne hL hbox (by decide)
  obtain ⟨i0, hi0, hz0, hz1, hz2⟩ := info_parts info_ref_call
  obtain ⟨i1, hj0, hy0, hy1, hy2⟩ := info_parts info_u8
  have lab : ab < w.heap.size := by
    have := hr 0 _ (List.getElem?_eq_getElem (by rw [length_bytesV]; omega))
    exact World.block_lt_of_cell? w _ this
  -- the copy
  have hownE : (w.drew.alloc (.cells #[] 5)).ownsRow w.heap.size 5 1 (.slice (some ⟨w.heap.size, 0, none⟩) 0 0) 0 [] := ⟨rfl, .inr ⟨_, 0, #[], rfl, Nat.le_refl _, heap_alloc_new w.drew _, Nat.le_refl _, by unfold maxLen; omega, rfl, rfl⟩⟩
  have hS1 : (w.drew.alloc (.cells #[] 5)).cell? ⟨p, 2, none⟩ = some vL ∧ (w.drew.alloc (.cells #[] 5)).rangeAt ab ao (bytesV l) := ⟨(World.cell?_alloc_lt w.drew _ _ lp).trans c2, World.rangeAt_alloc (w := w.drew) hr _⟩
  obtain ⟨gy, cy, W2, hapY, hownY, hgrowY, hatY, hltY⟩ := run_append_lies (P := Try.prog) (w.drew.alloc (.cells #[] 5)) 39 39 w.heap.size 5 i1 _ 1 1 Try.underlying39 hj0 hy0 hy1 hy2 (by rfl) (by omega) (.slice (some ⟨w.heap.size, 0, none⟩) 0 0) 0 [] hownE ⟨ab, ao, none⟩ 32 cap (bytesV l) (by rw [length_bytesV]; omega) (fun j u hu => by rw [Addr.add_mid]; exact hS1.2 j u hu) oneCell_bytesV (by omega) (by unfold maxLen; omega) (by omega) (by simp) _ rfl
  have hbY : Below w.heap.size w W2 := ((Below.refl w.heap.size w).drew.alloc (Nat.le_refl _) _).grown hgrowY (by simp) (fun k hk => by have e : some w.heap.size = some k := hk; injection e with e; omega)
  have hgy : w.heap.size ≤ gy := by
    obtain ⟨g', _, e, h1, _⟩ := hownY.form (by omega)
    injection e with e
    injection e with e
    rw [(Addr.mk.inj e).1]
    exact h1
  have hS2 : W2.cell? ⟨p, 2, none⟩ = some vL ∧ W2.rangeAt ab ao (bytesV l) := ⟨(hbY.cell (p := ⟨p, 2, none⟩) lp).trans c2, fun j u hu => (hbY.cell (p := ⟨ab, ao + j, none⟩) lab).trans (hr j u hu)⟩
  have hf2 : W2.frozen? ⟨p, 2, none⟩ = false := (World.frozen?_of_block (hbY.block p lp)).trans fz
  have hO2 := ownsRow_turned hL (Turned.of_below (S := fun _ => False) hbY) (fun _ _ h => h)
  have hs2 := hbY.size
  have hb3 : Below w.heap.size w (W2.alloc (.cells #[.int .i64 x, .slice (some ⟨gy, 0, none⟩) 32 cy] 79)) := hbY.alloc hs2 _
  have hS3 : (W2.alloc (.cells #[.int .i64 x, .slice (some ⟨gy, 0, none⟩) 32 cy] 79)).cell? ⟨p, 2, none⟩ = some vL ∧ (W2.alloc (.cells #[.int .i64 x, .slice (some ⟨gy, 0, none⟩) 32 cy] 79)).rangeAt ab ao (bytesV l) := ⟨(hb3.cell (p := ⟨p, 2, none⟩) lp).trans c2, fun j u hu => (hb3.cell (p := ⟨ab, ao + j, none⟩) lab).trans (hr j u hu)⟩
  have hf3 : (W2.alloc (.cells #[.int .i64 x, .slice (some ⟨gy, 0, none⟩) 32 cy] 79)).frozen? ⟨p, 2, none⟩ = false := (World.frozen?_of_block (hb3.block p lp)).trans fz
  obtain ⟨gg, cap1, W4, hap, hown1, hgrow, hat, hlt⟩ := run_append_lies (P := Try.prog) (W2.alloc (.cells #[.int .i64 x, .slice (some ⟨gy, 0, none⟩) 32 cy] 79)) 50 50 0 79 i0 _ 2 32 Try.underlying50 hi0 hz0 hz1 hz2 (by rfl) (by omega) vL cs.length rows (hO2.alloc _) ⟨W2.heap.size, 0, none⟩ 1 1 [.int .i64 x, .slice (some ⟨gy, 0, none⟩) 32 cy] rfl (World.news_of_block (cs := #[.int .i64 x, .slice (some ⟨gy, 0, none⟩) 32 cy]) (t := 79) (fr := (0, 0)) (heap_alloc_new W2 _)) (by simp [Value.oneCell']) (by omega) (by unfold maxLen; omega) (by omega) (by simp) _ rfl
  have vlt : ∀ k, vL.ownBlock = some k → k < w.heap.size := fun k hk => (hL.lt k hk).2
  have c4 := cell_grown hgrow hS3.1 np
  have f4 := frozen_grown hgrow hS3.1 hf3 np
  have hab : vL.ownBlock ≠ some ab := hab0
  have hr4 : W4.rangeAt ab ao (bytesV l) := fun j u hu => cell_grown hgrow (hS3.2 j u hu) hab
  have hS4 : W4.cell? ⟨p, 2, none⟩ = some vL ∧ W4.rangeAt ab ao (bytesV l) := ⟨c4, hr4⟩
  have hcy : 32 ≤ cy ∧ cy ≤ maxLen := by
    rcases hownY.2 with ⟨h', _⟩ | ⟨g', cap', cur, h', _, _, hnc, hm, _⟩
    · simp at h'
    · simp only [Value.slice.injEq, Option.some.injEq, Addr.mk.injEq, and_true, true_and] at h'
      rw [h'.2]; exact ⟨by omega, hm⟩
  have hyb : BytesAt W4 (some ⟨gy, 0, none⟩) l := fun i b hi => by
    refine ⟨gy, 0, rfl, ?_⟩
    have h1 := hownY.cells (g := gy) rfl i (byteV b) (by simp [bytesV, hi])
    rw [Addr.add_mid] at h1
    exact cell_grown hgrow ((World.cell?_alloc_lt W2 _ _ hltY).trans h1) (fun e => by have := vlt gy e; omega)
  have hfin : RefWrote w Y p n vB vL B (cs ++ [⟨false, x, l⟩]) (fun j => Y j ∨ j = gy) (W4.setCell ⟨p, 2, none⟩ (.slice (some ⟨gg, 0, none⟩) (cs.length + 1) cap1)) :=
    ref_of (c := ⟨false, x, l⟩) (y := .slice (some ⟨gy, 0, none⟩) 32 cy) hbox hB hBs hL hLs hsep hb3 hgrow hown1 (hat.imp id (fun e => by rw [e]; simp; omega)) (fun _ h => .inl h) (fun j hj e => by
      rcases hj with hj | hj
      · exact hsep j hj (.inl e)
      · omega) (fun _ => ⟨_, cy, rfl, hyb, hl, hcy, fun g o e => by injection e with e; exact .inr (Addr.mk.inj e).1.symm⟩)
  have hgy2 : ∃ C, (W4.setCell ⟨p, 2, none⟩ (.slice (some ⟨gg, 0, none⟩) (cs.length + 1) cap1)).heap[gy]? = some (.cells C 5 (0, 0)) := by
    rcases hownY.2 with ⟨h', _⟩ | ⟨g', cap', cur, h', _, hg, _⟩
    · simp at h'
    · simp only [Value.slice.injEq, Option.some.injEq, Addr.mk.injEq, and_true, true_and] at h'
      rw [← h'.1] at hg
      refine ⟨cur, (Below.heap_setCell _ _ _ _ (fun e => ?_)).trans ((hgrow.block gy (by simp; omega) (fun e => ?_)).trans ((Below.heap_alloc W2 _ gy hltY).trans hg))⟩
      · have e' : gy = p := e
        omega
      · have := vlt gy e.symm; omega
  have HFIN := Lib.hid hfin
  have HGY2 := Lib.hid hgy2
  have HGY := Lib.hid hgy
  have hS : w.drew.cell? ⟨p, 2, none⟩ = some vL ∧ w.drew.rangeAt ab ao (bytesV l) := ⟨c2, hr⟩
  clear hfin hgy hgy2 hyb hown1 hgrow hat hlt hownY hgrowY hatY hltY hbY hb3 hO2 hL hLs hB hBs hsep hownE vlt np fz hf2 hf3 hs2
  go_enter Try.func17, Try.ntmps17
  go_wp2_with fail
  refine region_R (fun x => x.cell? ⟨p, 2, none⟩ = some vL ∧ x.rangeAt ab ao (bytesV l)) (fun i => i == 14) #[false, false, false, false, false, false, false, false, false, false, false, false, false, false, false] 15 (by kernel_rfl) rfl rfl ?_
  refine AnyR.take (i := 0) (some 20) (.move (.tmp 0)) 29 (.pointer (some ⟨p, 0, none⟩)) #[true, false, false, false, false, false, false, false, false, false, false, false, false, false, false] (by kernel_rfl) (by kernel_rfl) (by kernel_rfl) (by kernel_rfl) (by kernel_rfl) rfl (fun _ _ _ h => h) (fun w _ => rfl) hS ?_
  simp only [Act.put, List.setIfInBounds_toArray, List.set_cons_zero, List.set_cons_succ]
  refine AnyR.take (i := 1) (some 21) (.move (.tmp 0)) 29 (.pointer (some ⟨p, 0, none⟩)) #[true, true, false, false, false, false, false, false, false, false, false, false, false, false, false] (by kernel_rfl) (by kernel_rfl) (by kernel_rfl) (by kernel_rfl) (by kernel_rfl) rfl (fun _ _ _ h => h) (fun w _ => rfl) hS ?_
  simp only [Act.put, List.setIfInBounds_toArray, List.set_cons_zero, List.set_cons_succ]
  refine AnyR.take (i := 2) (some 22) (.nilCheck (.tmp 21)) 0 (.pointer (some ⟨p, 0, none⟩)) #[true, true, true, false, false, false, false, false, false, false, false, false, false, false, false] (by kernel_rfl) (by kernel_rfl) (by kernel_rfl) (by kernel_rfl) (by kernel_rfl) rfl (fun _ _ _ h => h) (fun w _ => rfl) hS ?_
  simp only [Act.put, List.setIfInBounds_toArray, List.set_cons_zero, List.set_cons_succ]
  refine AnyR.take (i := 3) (some 23) (.fieldAddr 52 (.tmp 22) 2) 0 (.pointer (some ⟨p, 2, none⟩)) #[true, true, true, true, false, false, false, false, false, false, false, false, false, false, false] (by kernel_rfl) (by kernel_rfl) (by kernel_rfl) (by kernel_rfl) (by kernel_rfl) rfl (fun _ _ _ h => h) (fun w _ => by kernel_rfl) hS ?_
  simp only [Act.put, List.setIfInBounds_toArray, List.set_cons_zero, List.set_cons_succ]
  refine AnyR.take (i := 4) (some 24) (.load 50 (.tmp 23)) 50 (vL) #[true, true, true, true, true, false, false, false, false, false, false, false, false, false, false] (by kernel_rfl) (by kernel_rfl) (by kernel_rfl) (by kernel_rfl) (by kernel_rfl) rfl (fun _ _ _ h => h) (fun w hw => val_of (ref_load_slot hw.1)) hS ?_
  simp only [Act.put, List.setIfInBounds_toArray, List.set_cons_zero, List.set_cons_succ]
  refine AnyR.take (i := 5) (some 25) (.move (.tmp 1)) 3 (.int .i64 x) #[true, true, true, true, true, true, false, false, false, false, false, false, false, false, false] (by kernel_rfl) (by kernel_rfl) (by kernel_rfl) (by kernel_rfl) (by kernel_rfl) rfl (fun _ _ _ h => h) (fun w _ => rfl) hS ?_
  simp only [Act.put, List.setIfInBounds_toArray, List.set_cons_zero, List.set_cons_succ]
  refine AnyR.take (i := 7) (some 27) (.move (.tmp 2)) 39 (.slice (some ⟨ab, ao, none⟩) 32 cap) #[true, true, true, true, true, true, false, true, false, false, false, false, false, false, false] (by kernel_rfl) (by kernel_rfl) (by kernel_rfl) (by kernel_rfl) (by kernel_rfl) rfl (fun _ _ _ h => h) (fun w _ => rfl) hS ?_
  simp only [Act.put, List.setIfInBounds_toArray, List.set_cons_zero, List.set_cons_succ]
  refine AnyR.run (i := 6) (some 26) (.buildSlice 39 0 #[]) 39 (.slice (some ⟨w.heap.size, 0, none⟩) 0 0) (w.drew.alloc (.cells #[] 5)) #[true, true, true, true, true, true, true, true, false, false, false, false, false, false, false] (by kernel_rfl) (by kernel_rfl) rfl (by kernel_rfl) (fun _ => hS1) ?_
  simp only [Act.put, List.setIfInBounds_toArray, List.set_cons_zero, List.set_cons_succ]
  refine AnyR.run (i := 8) (some 28) (.call { callee := .builtin .append, args := #[.tmp 26, .tmp 27], argTypes := #[39, 39] }) 39 (.slice (some ⟨gy, 0, none⟩) 32 cy) (W2) #[true, true, true, true, true, true, true, true, true, false, false, false, false, false, false] (by kernel_rfl) (by kernel_rfl) rfl (append_of (s := .tmp 26) (x := .tmp 27) hapY rfl rfl) (fun _ => hS2) ?_
  simp only [Act.put, List.setIfInBounds_toArray, List.set_cons_zero, List.set_cons_succ]
  refine AnyR.run (i := 9) (some 29) (.build 79 #[(0, .tmp 25), (1, .tmp 28)]) 79 (.agg #[.int .i64 x, .slice (some ⟨gy, 0, none⟩) 32 cy]) (W2) #[true, true, true, true, true, true, true, true, true, true, false, false, false, false, false] (by kernel_rfl) (by kernel_rfl) rfl (build_of (x := .tmp 25) (y := .tmp 28) (run_ref_build x gy cy W2)) (fun _ => hS2) ?_
  simp only [Act.put, List.setIfInBounds_toArray, List.set_cons_zero, List.set_cons_succ]
  refine AnyR.run (i := 10) (some 30) (.buildSlice 50 1 #[(0, .tmp 29)]) 50 (.slice (some ⟨W2.heap.size, 0, none⟩) 1 1) (W2.alloc (.cells #[.int .i64 x, .slice (some ⟨gy, 0, none⟩) 32 cy] 79)) #[true, true, true, true, true, true, true, true, true, true, true, false, false, false, false] (by kernel_rfl) (by kernel_rfl) rfl (slice_of (x := .tmp 29) (run_ref_slice x gy cy W2)) (fun _ => hS3) ?_
  simp only [Act.put, List.setIfInBounds_toArray, List.set_cons_zero, List.set_cons_succ]
  refine AnyR.run (i := 11) (some 31) (.call { callee := .builtin .append, args := #[.tmp 24, .tmp 30], argTypes := #[50, 50] }) 50 (.slice (some ⟨gg, 0, none⟩) (cs.length + 1) cap1) (W4) #[true, true, true, true, true, true, true, true, true, true, true, true, false, false, false] (by kernel_rfl) (by kernel_rfl) rfl (append_of (s := .tmp 24) (x := .tmp 30) hap rfl rfl) (fun _ => hS4) ?_
  simp only [Act.put, List.setIfInBounds_toArray, List.set_cons_zero, List.set_cons_succ]
  refine AnyR.run (i := 12) (some 32) (.nilCheck (.tmp 20)) 0 (.pointer (some ⟨p, 0, none⟩)) (W4) #[true, true, true, true, true, true, true, true, true, true, true, true, true, false, false] (by kernel_rfl) (by kernel_rfl) rfl (rfl) (fun _ => hS4) ?_
  simp only [Act.put, List.setIfInBounds_toArray, List.set_cons_zero, List.set_cons_succ]
  refine AnyR.run (i := 13) (some 33) (.fieldAddr 52 (.tmp 32) 2) 0 (.pointer (some ⟨p, 2, none⟩)) (W4) #[true, true, true, true, true, true, true, true, true, true, true, true, true, true, false] (by kernel_rfl) (by kernel_rfl) rfl (by kernel_rfl) (fun _ => hS4) ?_
  simp only [Act.put, List.setIfInBounds_toArray, List.set_cons_zero, List.set_cons_succ]
  refine AnyR.runSkip (i := 14) none (.store 50 (.tmp 33) (.tmp 31)) 0 (W4.setCell ⟨p, 2, none⟩ (.slice (some ⟨gg, 0, none⟩) (cs.length + 1) cap1)) #[true, true, true, true, true, true, true, true, true, true, true, true, true, true, true] (by kernel_rfl) (by kernel_rfl) rfl (skip_of (ref_store_slot c4 f4)) (fun h => by cases h) ?_
  refine AnyR.none (by kernel_rfl) ?_ _
  go_wp2
  go_ret
  exact ⟨rfl, gy, HGY.out, HGY2.out, HFIN.out⟩
end Go.Proofs.Ytpfdlcogldbocaa

namespace Go.Proofs.Ytpfdlcogldbocaa
open Go.RowKit Go.Maps
attribute [local go_sem ↓] Go.wp_at_zero Go.wp_at_succ

theorem run_make32 (w : World) : (Instr.makeSlice 39 (.int .i64 32) (.int .i64 32)).run Try.prog w = .ok (.slice (some ⟨w.heap.size, 0, none⟩) 32 32) (w.alloc (.cells (bytesV zero32).toArray 5)) := by kernel_rfl
theorem run_begin_slice (g c : Nat) (w : World) : (Instr.buildSlice 49 1 #[(0, .slice (some ⟨g, 0, none⟩) 32 c)]).run Try.prog w = .ok (.slice (some ⟨w.heap.size, 0, none⟩) 1 1) (w.alloc (.cells #[.slice (some ⟨g, 0, none⟩) 32 c] 39)) := by kernel_rfl

theorem ref_write_out (p n : Nat) (x : Int) (b : Value) (w : World) (hc : w.cell? ⟨p, 0, none⟩ = some (.int .i64 (n : Int))) (h : x < 0 ∨ (n : Int) ≤ x) :
    Calls Try.prog 17 #[.pointer (some ⟨p, 0, none⟩), .int .i64 x, b] w fun e w' => e = .returned (.int .i64 21) ∧ w = w' := by
  by_cases h0 : x < 0
  · clear h
    go_enter Try.func17, Try.ntmps17
    go_wp2
    go_ret
    exact ⟨rfl, rfl⟩
  · have h0' : 0 ≤ x := by omega
    have h1 : (n : Int) ≤ x := by omega
    clear h0 h
    go_enter Try.func17, Try.ntmps17
    go_wp2
    go_ret
    exact ⟨rfl, rfl⟩
theorem ref_write_len (p n : Nat) (x : Int) (A : Option Addr) (m cap : Nat) (w : World) (hc : w.cell? ⟨p, 0, none⟩ = some (.int .i64 (n : Int))) (h0 : 0 ≤ x) (h1 : x < n) (hm : m ≠ 32) :
    Calls Try.prog 17 #[.pointer (some ⟨p, 0, none⟩), .int .i64 x, .slice A m cap] w fun e w' => e = .returned (.int .i64 1) ∧ w = w' := by
  have hb : ((m : Int) == 32) = false := by simp; omega
  clear hm
  go_enter Try.func17, Try.ntmps17
  go_wp2
  go_ret
  exact ⟨rfl, rfl⟩
theorem ref_new_out (x : Int) (w : World) (h : x < 1 ∨ 65536 < x) :
    Calls Try.prog 8 #[.int .i64 x] w fun e w' => e = .returned (.tuple #[.pointer none, .int .i64 1]) ∧ w = w' := by
  by_cases h0 : x < 1
  · clear h
    go_enter Try.func8, Try.ntmps8
    go_wp2
    go_ret2
    exact ⟨rfl, rfl⟩
  · have h0' : 1 ≤ x := by omega
    have h1 : 65536 < x := by omega
    clear h0 h
    go_enter Try.func8, Try.ntmps8
    go_wp2
    go_ret2
    exact ⟨rfl, rfl⟩

theorem ref_load_beg {w : World} {a : Addr} {v : Value} (h : w.cell? a = some v) : (Instr.loadAt 49 (.pointer (some a))).run Try.prog w = .ok v w := by
  go_simp
theorem ref_store_beg {w : World} {a : Addr} {u : Value} {A : Option Addr} {n c : Nat} (h : w.cell? a = some u) (hf : w.frozen? a = false) : (Instr.storeAt 49 (.pointer (some a)) (.slice A n c)).run Try.prog w = .ok () (w.setCell a (.slice A n c)) := by
  go_simp
theorem info_beg : (Try.prog.info? 39).map (fun i => (i.zero, i.size, i.bytes)) = some (some (.slice none 0 0), 1, 24) := by kernel_rfl

/-- Behind k rounds of New. -/
def BegRel (w : World) (n k : Nat) (wr : World) : Prop :=
  ∃ vB bs, wr.heap[w.heap.size]? = some (.cells #[.int .i64 (n : Int), vB, .slice none 0 0] 52 (0, 0)) ∧ wr.ownsRow w.heap.size 39 1 vB k bs ∧
    (∀ i, i < k → ∃ g, bs[i]? = some (.slice (some ⟨g, 0, none⟩) 32 32) ∧ wr.heap[g]? = some (.cells (bytesV zero32).toArray 5 (0, 0)) ∧ w.heap.size ≤ g) ∧ Below w.heap.size w wr
theorem BegRel.step {w wr W3 : World} {n k gg cap : Nat} {vB : Value} {bs : List Value} (hbox : wr.heap[w.heap.size]? = some (.cells #[.int .i64 (n : Int), vB, .slice none 0 0] 52 (0, 0))) (hB : wr.ownsRow w.heap.size 39 1 vB k bs)
    (hBs : ∀ i, i < k → ∃ g, bs[i]? = some (.slice (some ⟨g, 0, none⟩) 32 32) ∧ wr.heap[g]? = some (.cells (bytesV zero32).toArray 5 (0, 0)) ∧ w.heap.size ≤ g) (hb : Below w.heap.size w wr)
    (hgrow : ((wr.drew.alloc (.cells (bytesV zero32).toArray 5)).alloc (.cells #[.slice (some ⟨wr.heap.size, 0, none⟩) 32 32] 39)).grownBy W3 vB.ownBlock)
    (hown : W3.ownsRow w.heap.size 39 1 (.slice (some ⟨gg, 0, none⟩) (k + 1) cap) (k + 1) (bs ++ [.slice (some ⟨wr.heap.size, 0, none⟩) 32 32])) :
    BegRel w n (k + 1) (W3.setCell ⟨w.heap.size, 1, none⟩ (.slice (some ⟨gg, 0, none⟩) (k + 1) cap)) := by
  have np := own_ne hB hbox (by decide)
  have hb1 : Below wr.heap.size wr (wr.drew.alloc (.cells (bytesV zero32).toArray 5)) := ((Below.refl _ wr).drew).alloc (Nat.le_refl _) _
  have hb2 : Below wr.heap.size wr ((wr.drew.alloc (.cells (bytesV zero32).toArray 5)).alloc (.cells #[.slice (some ⟨wr.heap.size, 0, none⟩) 32 32] 39)) := hb1.alloc hb1.size _
  have t2 : Turned (fun j => vB.ownBlock = some j) wr W3 := turned_grown hgrow hb2
  have p2 := t2.obj hbox np
  have gp : gg ≠ w.heap.size := by
    intro e
    rw [e] at hown
    exact own_ne hown p2 (by decide) rfl
  have hs := hb.size
  have vge : ∀ k, vB.ownBlock = some k → w.heap.size ≤ k := fun k hk => (hB.lt k hk).1
  have hl : bs.length = k := by have := hB.1; omega
  have ts := turned_setCell W3 w.heap.size 1 (.slice (some ⟨gg, 0, none⟩) (k + 1) cap)
  have pne : ∀ g c, W3.heap[g]? = some (.cells c 5 (0, 0)) → g ≠ w.heap.size := by
    rintro g c hg rfl
    rw [p2] at hg
    injection hg with hg
    injection hg with _ hg _
    exact absurd hg (by decide)
  have hnew : W3.heap[wr.heap.size]? = some (.cells (bytesV zero32).toArray 5 (0, 0)) := by
    refine (hgrow.block wr.heap.size (by simp; omega) (fun e => ?_)).trans ((Below.heap_alloc (wr.drew.alloc (.cells (bytesV zero32).toArray 5)) _ wr.heap.size (by simp)).trans (heap_alloc_new wr.drew _))
    have := (hB.lt _ e.symm).2
    omega
  refine ⟨.slice (some ⟨gg, 0, none⟩) (k + 1) cap, _, ?_, ownsRow_setCell_other hown (by simp [Value.ownBlock]; exact gp) _, fun i hi => ?_, ?_⟩
  · exact heap_setCell_same W3 w.heap.size 1 _ _ (.slice (some ⟨gg, 0, none⟩) (k + 1) cap) p2
  · rcases Nat.lt_or_ge i k with hik | hik
    · obtain ⟨g, e1, e2, e3⟩ := hBs i hik
      have e4 := t2.obj e2 (own_ne hB e2 (by decide))
      exact ⟨g, by rw [List.getElem?_append_left (by omega)]; exact e1, ts.obj e4 (pne g _ e4), e3⟩
    · obtain rfl : i = k := by omega
      exact ⟨wr.heap.size, by rw [List.getElem?_append_right (by omega), hl, Nat.sub_self]; rfl, ts.obj hnew (pne _ _ hnew), hs⟩
  · have := (hb.trans (hb2.mono hs)).grown hgrow (by simp; omega) vge
    exact this.setCell (p := ⟨w.heap.size, 1, none⟩) (Nat.le_refl _) _

set_option maxRecDepth 100000 in
set_option maxHeartbeats 2000000 in
theorem ref_new (n : Nat) (w : World) (h1 : 0 < n) (h2 : n ≤ 65536) :
    Calls Try.prog 8 #[.int .i64 (n : Int)] w fun e w' => ∃ p vB Y, e = .returned (.tuple #[.pointer (some ⟨p, 0, none⟩), .int .i64 0]) ∧ RefIs w' Y p n vB (.slice none 0 0) (fun _ => zero32) [] ∧
      (∀ j, Y j → ¬ refFoot p vB (.slice none 0 0) j) ∧ (∀ j, refFoot p vB (.slice none 0 0) j ∨ Y j → w.heap.size ≤ j ∧ j < w'.heap.size) ∧ Below w.heap.size w w' := by
  obtain ⟨i0, hi0, hz0, hz1, hz2⟩ := info_parts info_beg
  have g1 : (1 : Int) ≤ (n : Int) := by omega
  have g2 : (n : Int) ≤ 65536 := by omega
  go_enter Try.func8, Try.ntmps8
  go_wp2_with fail
  go_loopw [5] (fun ii wr => ∃ k : Nat, ii = .int .i64 (k : Int) ∧ k ≤ n ∧ BegRel w n k wr) (fun ii _ => n - (intOf ii).toNat)
  case atStart => exact ⟨0, rfl, Nat.zero_le _, .slice none 0 0, [], heap_alloc_new w _, World.ownsRow_nil _ _ _ _, (fun i hi => by omega), (Below.refl _ _).alloc (Nat.le_refl _) _⟩
  case round =>
    obtain ⟨k, rfl, hk, vB, bs, hbox, hB, hBs, hb⟩ := hrel
    by_cases hkn : k < n
    · have hki : (k : Int) < (n : Int) := by omega
      have hk0 : (0 : Int) ≤ (k : Int) := by omega
      have c1 : wr.cell? ⟨w.heap.size, 1, none⟩ = some vB := cell_of_row _ _ 1 _ _ _ hbox
      have fz : wr.frozen? ⟨w.heap.size, 1, none⟩ = false := frozen_of_row wr w.heap.size 1 _ _ hbox
      have lp : w.heap.size < wr.heap.size := lt_of_some hbox
      have np := own_ne hB hbox (by decide)
      have hb1 : Below wr.heap.size wr (wr.drew.alloc (.cells (bytesV zero32).toArray 5)) := ((Below.refl _ wr).drew).alloc (Nat.le_refl _) _
      have hb2 : Below wr.heap.size wr ((wr.drew.alloc (.cells (bytesV zero32).toArray 5)).alloc (.cells #[.slice (some ⟨wr.heap.size, 0, none⟩) 32 32] 39)) := hb1.alloc hb1.size _
      have hS : wr.drew.cell? ⟨w.heap.size, 1, none⟩ = some vB := c1
      have hS1 := (hb1.cell (p := ⟨w.heap.size, 1, none⟩) lp).trans c1
      have hS2 := (hb2.cell (p := ⟨w.heap.size, 1, none⟩) lp).trans c1
      have hf2 := (World.frozen?_of_block (a := ⟨w.heap.size, 1, none⟩) (hb2.block w.heap.size lp)).trans fz
      have hB2 := ownsRow_turned hB (Turned.of_below (S := fun _ => False) hb2) (fun _ _ h => h)
      obtain ⟨gg, cap1, W3, hap, hown1, hgrow, hat, hlt⟩ := run_append_lies (P := Try.prog) ((wr.drew.alloc (.cells (bytesV zero32).toArray 5)).alloc (.cells #[.slice (some ⟨wr.heap.size, 0, none⟩) 32 32] 39)) 49 49 w.heap.size 39 i0 _ 1 24 Try.underlying49 hi0 hz0 hz1 hz2 (by rfl) (by omega) vB k bs hB2 ⟨(wr.drew.alloc (.cells (bytesV zero32).toArray 5)).heap.size, 0, none⟩ 1 1 [.slice (some ⟨wr.heap.size, 0, none⟩) 32 32] rfl (World.news_of_block (cs := #[.slice (some ⟨wr.heap.size, 0, none⟩) 32 32]) (t := 39) (fr := (0, 0)) (heap_alloc_new _ _)) (by simp [Value.oneCell']) (by omega) (by unfold maxLen; omega) (by omega) (by simp; omega) _ rfl
      have hS3 := cell_grown hgrow hS2 np
      have f3 := frozen_grown hgrow hS2 hf2 np
      have HST := Lib.hid (BegRel.step hbox hB hBs hb hgrow hown1)
      clear hbox hB hBs hb hgrow hown1 hb1 hb2 hB2 hat hlt np hf2 fz c1
      go_wp2_with fail
      refine region_R (fun x => x.cell? ⟨w.heap.size, 1, none⟩ = some vB) (fun i => i == 10) #[false, false, false, false, false, false, false, false, false, false, false] 11 (by kernel_rfl) rfl rfl ?_
      refine AnyR.take (i := 0) (some 20) (.move (.tmp 4)) 29 (.pointer (some ⟨w.heap.size, 0, none⟩)) #[true, false, false, false, false, false, false, false, false, false, false] (by kernel_rfl) (by kernel_rfl) (by kernel_rfl) (by kernel_rfl) (by kernel_rfl) rfl (fun _ _ _ h => h) (fun w _ => rfl) hS ?_
      simp only [Act.put, List.setIfInBounds_toArray, List.set_cons_zero, List.set_cons_succ]
      refine AnyR.take (i := 1) (some 21) (.move (.tmp 4)) 29 (.pointer (some ⟨w.heap.size, 0, none⟩)) #[true, true, false, false, false, false, false, false, false, false, false] (by kernel_rfl) (by kernel_rfl) (by kernel_rfl) (by kernel_rfl) (by kernel_rfl) rfl (fun _ _ _ h => h) (fun w _ => rfl) hS ?_
      simp only [Act.put, List.setIfInBounds_toArray, List.set_cons_zero, List.set_cons_succ]
      refine AnyR.take (i := 2) (some 22) (.nilCheck (.tmp 21)) 0 (.pointer (some ⟨w.heap.size, 0, none⟩)) #[true, true, true, false, false, false, false, false, false, false, false] (by kernel_rfl) (by kernel_rfl) (by kernel_rfl) (by kernel_rfl) (by kernel_rfl) rfl (fun _ _ _ h => h) (fun w _ => rfl) hS ?_
      simp only [Act.put, List.setIfInBounds_toArray, List.set_cons_zero, List.set_cons_succ]
      refine AnyR.take (i := 3) (some 23) (.fieldAddr 52 (.tmp 22) 1) 0 (.pointer (some ⟨w.heap.size, 1, none⟩)) #[true, true, true, true, false, false, false, false, false, false, false] (by kernel_rfl) (by kernel_rfl) (by kernel_rfl) (by kernel_rfl) (by kernel_rfl) rfl (fun _ _ _ h => h) (fun w _ => by kernel_rfl) hS ?_
      simp only [Act.put, List.setIfInBounds_toArray, List.set_cons_zero, List.set_cons_succ]
      refine AnyR.take (i := 4) (some 24) (.load 49 (.tmp 23)) 49 (vB) #[true, true, true, true, true, false, false, false, false, false, false] (by kernel_rfl) (by kernel_rfl) (by kernel_rfl) (by kernel_rfl) (by kernel_rfl) rfl (fun _ _ _ h => h) (fun w hw => val_of (ref_load_beg hw)) hS ?_
      simp only [Act.put, List.setIfInBounds_toArray, List.set_cons_zero, List.set_cons_succ]
      refine AnyR.run (i := 5) (some 25) (.makeSlice 39 (.const (.int .i64 32)) (.const (.int .i64 32))) 39 (.slice (some ⟨wr.heap.size, 0, none⟩) 32 32) (wr.drew.alloc (.cells (bytesV zero32).toArray 5)) #[true, true, true, true, true, true, false, false, false, false, false] (by kernel_rfl) (by kernel_rfl) rfl (val_of (run_make32 _)) (fun _ => hS1) ?_
      simp only [Act.put, List.setIfInBounds_toArray, List.set_cons_zero, List.set_cons_succ]
      refine AnyR.run (i := 6) (some 26) (.buildSlice 49 1 #[(0, .tmp 25)]) 49 (.slice (some ⟨(wr.drew.alloc (.cells (bytesV zero32).toArray 5)).heap.size, 0, none⟩) 1 1) ((wr.drew.alloc (.cells (bytesV zero32).toArray 5)).alloc (.cells #[.slice (some ⟨wr.heap.size, 0, none⟩) 32 32] 39)) #[true, true, true, true, true, true, true, false, false, false, false] (by kernel_rfl) (by kernel_rfl) rfl (slice_of (x := .tmp 25) (run_begin_slice _ _ _)) (fun _ => hS2) ?_
      simp only [Act.put, List.setIfInBounds_toArray, List.set_cons_zero, List.set_cons_succ]
      refine AnyR.run (i := 7) (some 27) (.call { callee := .builtin .append, args := #[.tmp 24, .tmp 26], argTypes := #[49, 49] }) 49 (.slice (some ⟨gg, 0, none⟩) (k + 1) cap1) (W3) #[true, true, true, true, true, true, true, true, false, false, false] (by kernel_rfl) (by kernel_rfl) rfl (append_of (s := .tmp 24) (x := .tmp 26) hap rfl rfl) (fun _ => hS3) ?_
      simp only [Act.put, List.setIfInBounds_toArray, List.set_cons_zero, List.set_cons_succ]
      refine AnyR.run (i := 8) (some 28) (.nilCheck (.tmp 20)) 0 (.pointer (some ⟨w.heap.size, 0, none⟩)) (W3) #[true, true, true, true, true, true, true, true, true, false, false] (by kernel_rfl) (by kernel_rfl) rfl (rfl) (fun _ => hS3) ?_
      simp only [Act.put, List.setIfInBounds_toArray, List.set_cons_zero, List.set_cons_succ]
      refine AnyR.run (i := 9) (some 29) (.fieldAddr 52 (.tmp 28) 1) 0 (.pointer (some ⟨w.heap.size, 1, none⟩)) (W3) #[true, true, true, true, true, true, true, true, true, true, false] (by kernel_rfl) (by kernel_rfl) rfl (by kernel_rfl) (fun _ => hS3) ?_
      simp only [Act.put, List.setIfInBounds_toArray, List.set_cons_zero, List.set_cons_succ]
      refine AnyR.runSkip (i := 10) none (.store 49 (.tmp 29) (.tmp 27)) 0 (W3.setCell ⟨w.heap.size, 1, none⟩ (.slice (some ⟨gg, 0, none⟩) (k + 1) cap1)) #[true, true, true, true, true, true, true, true, true, true, true] (by kernel_rfl) (by kernel_rfl) rfl (skip_of (ref_store_beg hS3 f3)) (fun h => by cases h) ?_
      refine AnyR.none (by kernel_rfl) ?_ _
      go_wp2_with fail
      go_roundw
      case rel => exact ⟨k + 1, by go_num, by omega, HST.out⟩
      case measure => simp [intOf]; omega
    · have hkn' : (n : Int) ≤ (k : Int) := by omega
      obtain rfl : k = n := by omega
      have hpq : ∀ j, refFoot w.heap.size vB (.slice none 0 0) j ∨ (∃ c, wr.heap[j]? = some (.cells c 5 (0, 0))) ∧ w.heap.size ≤ j → w.heap.size ≤ j ∧ j < wr.heap.size := by
        rintro j ((rfl | hj | hj) | ⟨⟨c, hj⟩, hge⟩)
        · exact ⟨Nat.le_refl _, lt_of_some hbox⟩
        · exact hB.lt j hj
        · cases hj
        · exact ⟨hge, lt_of_some hj⟩
      have hfin : ∃ p vB' Y, (some (⟨w.heap.size, 0, none⟩ : Addr) = some ⟨p, 0, none⟩) ∧ RefIs wr Y p k vB' (.slice none 0 0) (fun _ => zero32) [] ∧ (∀ j, Y j → ¬ refFoot p vB' (.slice none 0 0) j) ∧ (∀ j, refFoot p vB' (.slice none 0 0) j ∨ Y j → w.heap.size ≤ j ∧ j < wr.heap.size) ∧ Below w.heap.size w wr := by
        refine ⟨w.heap.size, vB, fun j => (∃ c, wr.heap[j]? = some (.cells c 5 (0, 0))) ∧ w.heap.size ≤ j, rfl, ⟨hbox, ⟨bs, ⟨hB.1, hB.2.imp id (fun ⟨g, cap, cur, e, _, r⟩ => ⟨g, cap, cur, e, Nat.zero_le _, r⟩)⟩, fun i hi => ?_⟩, ⟨[], World.ownsRow_nil _ _ _ _, fun i c hc => by cases hc⟩⟩, ?_, hpq, hb⟩
        · obtain ⟨g, e1, e2, e3⟩ := hBs i hi
          exact ⟨_, e1, _, 32, rfl, bytesAt_blk e2, (show zero32.length = 32 by decide), ⟨Nat.le_refl _, by unfold maxLen; omega⟩, fun g' o e => by injection e with e; rw [← (Addr.mk.inj e).1]; exact ⟨⟨_, e2⟩, e3⟩⟩
        · rintro j ⟨⟨c, hj⟩, _⟩ (rfl | h | h)
          · rw [hbox] at hj
            injection hj with hj
            injection hj with _ hj _
            exact absurd hj (by decide)
          · exact own_ne hB hj (by decide) h
          · cases h
      have HFIN := Lib.hid hfin
      clear hfin hpq hbox hB hBs hb
      go_wp2_with fail
      go_ret2
      obtain ⟨p, vB', Y, e, h3⟩ := HFIN.out
      exact ⟨p, vB', Y, by rw [← e]; rfl, h3⟩
end Go.Proofs.Ytpfdlcogldbocaa

namespace Go.Proofs.Ytpfdlcogldbocaa
open Go.RowKit Go.Maps Go.Deep

theorem call_addr {W : World} {kg n cap i : Nat} (hi : i < n) (_hn : n ≤ maxLen) : (Instr.indexAt 50 (.slice (some ⟨kg, 0, none⟩) n cap) (.int .i64 (i : Int))).run Try.prog W = .ok (.pointer (some ⟨kg, i * 2, none⟩)) W := by
  unfold maxLen at _hn
  have h1 : (i : Int) < (n : Int) := by omega
  have h0 : (0 : Int) ≤ (i : Int) := by omega
  go_simp
theorem ref_build_any (x : Int) (A : Option Addr) (c : Nat) (w : World) : (Instr.build 79 #[(0, .int .i64 x), (1, .slice A 32 c)]).run Try.prog w = .ok (.agg #[.int .i64 x, .slice A 32 c]) w := by kernel_rfl
theorem ref_slice_any (x : Int) (A : Option Addr) (c : Nat) (w : World) : (Instr.buildSlice 50 1 #[(0, .agg #[.int .i64 x, .slice A 32 c])]).run Try.prog w = .ok (.slice (some ⟨w.heap.size, 0, none⟩) 1 1) (w.alloc (.cells #[.int .i64 x, .slice A 32 c] 79)) := by kernel_rfl
theorem int_load_slot {w : World} {a : Addr} {n : Int} (h : w.cell? a = some (.int .i64 n)) : (Instr.loadAt 3 (.pointer (some a))).run Try.prog w = .ok (.int .i64 n) w := by
  go_simp

theorem Own.turned {w w' : World} {base g n c : Nat} {l : List UInt8} {T : Nat → Prop} (h : Own w base g n c l) (ht : Turned T w w') (hn : ¬ T g) : Own w' base g n c l :=
  ⟨ownsRow_turned h.1 ht (fun k hk => by
    have e : g = k := by simpa [Value.ownBlock] using hk
    rw [← e]; exact hn), h.2⟩
end Go.Proofs.Ytpfdlcogldbocaa
