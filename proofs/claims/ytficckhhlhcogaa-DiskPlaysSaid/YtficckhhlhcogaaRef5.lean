/-
  The reference's New. Conditions: those named at each contract.
-/
import Derived.Test.YtficckhhlhcogaaRef4
namespace Go.Proofs.Ytficckhhlhcogaa
open Go.RowKit Go.Maps
attribute [local go_sem ↓] Go.wp_at_zero Go.wp_at_succ

theorem run_make32 (w : World) : (Instr.makeSlice 31 (.int .i64 32) (.int .i64 32)).run Try.prog w = .ok (.slice (some ⟨w.heap.size, 0, none⟩) 32 32) (w.alloc (.cells (bytesV zero32).toArray 5)) := by kernel_rfl
theorem run_begin_slice (g c : Nat) (w : World) : (Instr.buildSlice 42 1 #[(0, .slice (some ⟨g, 0, none⟩) 32 c)]).run Try.prog w = .ok (.slice (some ⟨w.heap.size, 0, none⟩) 1 1) (w.alloc (.cells #[.slice (some ⟨g, 0, none⟩) 32 c] 31)) := by kernel_rfl

theorem ref_write_out (p n : Nat) (x : Int) (b : Value) (w : World) (hc : w.cell? ⟨p, 0, none⟩ = some (.int .i64 (n : Int))) (h : x < 0 ∨ (n : Int) ≤ x) :
    Calls Try.prog 11 #[.pointer (some ⟨p, 0, none⟩), .int .i64 x, b] w fun e w' => e = .returned (.int .i64 21) ∧ w = w' := by
  by_cases h0 : x < 0
  · clear h
    go_enter Try.func11, Try.ntmps11
    go_wp2
    go_ret
    exact ⟨rfl, rfl⟩
  · have h0' : 0 ≤ x := by omega
    have h1 : (n : Int) ≤ x := by omega
    clear h0 h
    go_enter Try.func11, Try.ntmps11
    go_wp2
    go_ret
    exact ⟨rfl, rfl⟩
theorem ref_write_len (p n : Nat) (x : Int) (A : Option Addr) (m cap : Nat) (w : World) (hc : w.cell? ⟨p, 0, none⟩ = some (.int .i64 (n : Int))) (h0 : 0 ≤ x) (h1 : x < n) (hm : m ≠ 32) :
    Calls Try.prog 11 #[.pointer (some ⟨p, 0, none⟩), .int .i64 x, .slice A m cap] w fun e w' => e = .returned (.int .i64 1) ∧ w = w' := by
  have hb : ((m : Int) == 32) = false := by simp; omega
  clear hm
  go_enter Try.func11, Try.ntmps11
  go_wp2
  go_ret
  exact ⟨rfl, rfl⟩
theorem ref_new_out (x : Int) (w : World) (h : x < 1 ∨ 65536 < x) :
    Calls Try.prog 9 #[.int .i64 x] w fun e w' => e = .returned (.tuple #[.pointer none, .int .i64 1]) ∧ w = w' := by
  by_cases h0 : x < 1
  · clear h
    go_enter Try.func9, Try.ntmps9
    go_wp2
    go_ret2
    exact ⟨rfl, rfl⟩
  · have h0' : 1 ≤ x := by omega
    have h1 : 65536 < x := by omega
    clear h0 h
    go_enter Try.func9, Try.ntmps9
    go_wp2
    go_ret2
    exact ⟨rfl, rfl⟩

theorem ref_load_beg {w : World} {a : Addr} {v : Value} (h : w.cell? a = some v) : (Instr.loadAt 42 (.pointer (some a))).run Try.prog w = .ok v w := by
  go_simp
theorem ref_store_beg {w : World} {a : Addr} {u : Value} {A : Option Addr} {n c : Nat} (h : w.cell? a = some u) (hf : w.frozen? a = false) : (Instr.storeAt 42 (.pointer (some a)) (.slice A n c)).run Try.prog w = .ok () (w.setCell a (.slice A n c)) := by
  go_simp
theorem info_beg : (Try.prog.info? 31).map (fun i => (i.zero, i.size, i.bytes)) = some (some (.slice none 0 0), 1, 24) := by kernel_rfl

/-- Behind k rounds of New. -/
def BegRel (w : World) (n k : Nat) (wr : World) : Prop :=
  ∃ vB bs, wr.heap[w.heap.size]? = some (.cells #[.int .i64 (n : Int), vB, .slice none 0 0] 53 (0, 0)) ∧ wr.ownsRow w.heap.size 31 1 vB k bs ∧
    (∀ i, i < k → ∃ g, bs[i]? = some (.slice (some ⟨g, 0, none⟩) 32 32) ∧ wr.heap[g]? = some (.cells (bytesV zero32).toArray 5 (0, 0)) ∧ w.heap.size ≤ g) ∧ Below w.heap.size w wr
theorem BegRel.step {w wr W3 : World} {n k gg cap : Nat} {vB : Value} {bs : List Value} (hbox : wr.heap[w.heap.size]? = some (.cells #[.int .i64 (n : Int), vB, .slice none 0 0] 53 (0, 0))) (hB : wr.ownsRow w.heap.size 31 1 vB k bs)
    (hBs : ∀ i, i < k → ∃ g, bs[i]? = some (.slice (some ⟨g, 0, none⟩) 32 32) ∧ wr.heap[g]? = some (.cells (bytesV zero32).toArray 5 (0, 0)) ∧ w.heap.size ≤ g) (hb : Below w.heap.size w wr)
    (hgrow : ((wr.drew.alloc (.cells (bytesV zero32).toArray 5)).alloc (.cells #[.slice (some ⟨wr.heap.size, 0, none⟩) 32 32] 31)).grownBy W3 vB.ownBlock)
    (hown : W3.ownsRow w.heap.size 31 1 (.slice (some ⟨gg, 0, none⟩) (k + 1) cap) (k + 1) (bs ++ [.slice (some ⟨wr.heap.size, 0, none⟩) 32 32])) :
    BegRel w n (k + 1) (W3.setCell ⟨w.heap.size, 1, none⟩ (.slice (some ⟨gg, 0, none⟩) (k + 1) cap)) := by
  have np := own_ne hB hbox (by decide)
  have hb1 : Below wr.heap.size wr (wr.drew.alloc (.cells (bytesV zero32).toArray 5)) := ((Below.refl _ wr).drew).alloc (Nat.le_refl _) _
  have hb2 : Below wr.heap.size wr ((wr.drew.alloc (.cells (bytesV zero32).toArray 5)).alloc (.cells #[.slice (some ⟨wr.heap.size, 0, none⟩) 32 32] 31)) := hb1.alloc hb1.size _
  have t2 : Turned (fun j => vB.ownBlock = some j) wr W3 := turned_grown hgrow hb2
  have p2 := t2.obj hbox np
  have gp : gg ≠ w.heap.size := by
    intro e
    rw [e] at hown
    exact own_ne hown p2 (by decide) rfl
  have hs := hb.size
  have vge : ∀ k, vB.ownBlock = some k → w.heap.size ≤ k := fun k hk => (hB.lt k hk).1
  have hl : bs.length = k := by have := hB.1; omega
  have ts := turned_setCell W3 w.heap.size 1 (.slice (some ⟨gg, 0, none⟩) (k + 1) cap)
  have pne : ∀ g c, W3.heap[g]? = some (.cells c 5 (0, 0)) → g ≠ w.heap.size := by
    rintro g c hg rfl
    rw [p2] at hg
    injection hg with hg
    injection hg with _ hg _
    exact absurd hg (by decide)
  have hnew : W3.heap[wr.heap.size]? = some (.cells (bytesV zero32).toArray 5 (0, 0)) := by
    refine (hgrow.block wr.heap.size (by simp; omega) (fun e => ?_)).trans ((Below.heap_alloc (wr.drew.alloc (.cells (bytesV zero32).toArray 5)) _ wr.heap.size (by simp)).trans (heap_alloc_new wr.drew _))
    have := (hB.lt _ e.symm).2
    omega
  refine ⟨.slice (some ⟨gg, 0, none⟩) (k + 1) cap, _, ?_, ownsRow_setCell_other hown (by simp [Value.ownBlock]; exact gp) _, fun i hi => ?_, ?_⟩
  · exact heap_setCell_same W3 w.heap.size 1 _ _ (.slice (some ⟨gg, 0, none⟩) (k + 1) cap) p2
  · rcases Nat.lt_or_ge i k with hik | hik
    · obtain ⟨g, e1, e2, e3⟩ := hBs i hik
      have e4 := t2.obj e2 (own_ne hB e2 (by decide))
      exact ⟨g, by rw [List.getElem?_append_left (by omega)]; exact e1, ts.obj e4 (pne g _ e4), e3⟩
    · obtain rfl : i = k := by omega
      exact ⟨wr.heap.size, by rw [List.getElem?_append_right (by omega), hl, Nat.sub_self]; rfl, ts.obj hnew (pne _ _ hnew), hs⟩
  · have := (hb.trans (hb2.mono hs)).grown hgrow (by simp; omega) vge
    exact this.setCell (p := ⟨w.heap.size, 1, none⟩) (Nat.le_refl _) _

set_option maxRecDepth 100000 in
set_option maxHeartbeats 2000000 in
theorem ref_new (n : Nat) (w : World) (h1 : 0 < n) (h2 : n ≤ 65536) :
    Calls Try.prog 9 #[.int .i64 (n : Int)] w fun e w' => ∃ p vB Y, e = .returned (.tuple #[.pointer (some ⟨p, 0, none⟩), .int .i64 0]) ∧ RefIs w' Y p n vB (.slice none 0 0) (fun _ => zero32) [] ∧
      (∀ j, Y j → ¬ refFoot p vB (.slice none 0 0) j) ∧ (∀ j, refFoot p vB (.slice none 0 0) j ∨ Y j → w.heap.size ≤ j ∧ j < w'.heap.size) ∧ Below w.heap.size w w' := by
  obtain ⟨i0, hi0, hz0, hz1, hz2⟩ := info_parts info_beg
  have g1 : (1 : Int) ≤ (n : Int) := by omega
  have g2 : (n : Int) ≤ 65536 := by omega
  go_enter Try.func9, Try.ntmps9
  go_wp2_with fail
  go_loopw [5] (fun ii wr => ∃ k : Nat, ii = .int .i64 (k : Int) ∧ k ≤ n ∧ BegRel w n k wr) (fun ii _ => n - (intOf ii).toNat)
  case atStart => exact ⟨0, rfl, Nat.zero_le _, .slice none 0 0, [], heap_alloc_new w _, World.ownsRow_nil _ _ _ _, (fun i hi => by omega), (Below.refl _ _).alloc (Nat.le_refl _) _⟩
  case round =>
    obtain ⟨k, rfl, hk, vB, bs, hbox, hB, hBs, hb⟩ := hrel
    by_cases hkn : k < n
    · have hki : (k : Int) < (n : Int) := by omega
      have hk0 : (0 : Int) ≤ (k : Int) := by omega
      have c1 : wr.cell? ⟨w.heap.size, 1, none⟩ = some vB := cell_of_row _ _ 1 _ _ _ hbox
      have fz : wr.frozen? ⟨w.heap.size, 1, none⟩ = false := frozen_of_row wr w.heap.size 1 _ _ hbox
      have lp : w.heap.size < wr.heap.size := lt_of_some hbox
      have np := own_ne hB hbox (by decide)
      have hb1 : Below wr.heap.size wr (wr.drew.alloc (.cells (bytesV zero32).toArray 5)) := ((Below.refl _ wr).drew).alloc (Nat.le_refl _) _
      have hb2 : Below wr.heap.size wr ((wr.drew.alloc (.cells (bytesV zero32).toArray 5)).alloc (.cells #[.slice (some ⟨wr.heap.size, 0, none⟩) 32 32] 31)) := hb1.alloc hb1.size _
      have hS : wr.drew.cell? ⟨w.heap.size, 1, none⟩ = some vB := c1
      have hS1 := (hb1.cell (p := ⟨w.heap.size, 1, none⟩) lp).trans c1
      have hS2 := (hb2.cell (p := ⟨w.heap.size, 1, none⟩) lp).trans c1
      have hf2 := (World.frozen?_of_block (a := ⟨w.heap.size, 1, none⟩) (hb2.block w.heap.size lp)).trans fz
      have hB2 := ownsRow_turned hB (Turned.of_below (S := fun _ => False) hb2) (fun _ _ h => h)
      obtain ⟨gg, cap1, W3, hap, hown1, hgrow, hat, hlt⟩ := run_append_lies (P := Try.prog) ((wr.drew.alloc (.cells (bytesV zero32).toArray 5)).alloc (.cells #[.slice (some ⟨wr.heap.size, 0, none⟩) 32 32] 31)) 42 42 w.heap.size 31 i0 _ 1 24 Try.underlying42 hi0 hz0 hz1 hz2 (by rfl) (by omega) vB k bs hB2 ⟨(wr.drew.alloc (.cells (bytesV zero32).toArray 5)).heap.size, 0, none⟩ 1 1 [.slice (some ⟨wr.heap.size, 0, none⟩) 32 32] rfl (World.news_of_block (cs := #[.slice (some ⟨wr.heap.size, 0, none⟩) 32 32]) (t := 31) (fr := (0, 0)) (heap_alloc_new _ _)) (by simp [Value.oneCell']) (by omega) (by unfold maxLen; omega) (by omega) (by simp; omega) _ rfl
      have hS3 := cell_grown hgrow hS2 np
      have f3 := frozen_grown hgrow hS2 hf2 np
      have HST := Lib.hid (BegRel.step hbox hB hBs hb hgrow hown1)
      clear hbox hB hBs hb hgrow hown1 hb1 hb2 hB2 hat hlt np hf2 fz c1
      go_wp2_with fail
      refine region_R (fun x => x.cell? ⟨w.heap.size, 1, none⟩ = some vB) (fun i => i == 10) #[false, false, false, false, false, false, false, false, false, false, false] 11 (by kernel_rfl) rfl rfl ?_
      refine AnyR.take (i := 0) (some 20) (.move (.tmp 4)) 28 (.pointer (some ⟨w.heap.size, 0, none⟩)) #[true, false, false, false, false, false, false, false, false, false, false] (by kernel_rfl) (by kernel_rfl) (by kernel_rfl) (by kernel_rfl) (by kernel_rfl) rfl (fun _ _ _ h => h) (fun w _ => rfl) hS ?_
      simp only [Act.put, List.setIfInBounds_toArray, List.set_cons_zero, List.set_cons_succ]
      refine AnyR.take (i := 1) (some 21) (.move (.tmp 4)) 28 (.pointer (some ⟨w.heap.size, 0, none⟩)) #[true, true, false, false, false, false, false, false, false, false, false] (by kernel_rfl) (by kernel_rfl) (by kernel_rfl) (by kernel_rfl) (by kernel_rfl) rfl (fun _ _ _ h => h) (fun w _ => rfl) hS ?_
      simp only [Act.put, List.setIfInBounds_toArray, List.set_cons_zero, List.set_cons_succ]
      refine AnyR.take (i := 2) (some 22) (.nilCheck (.tmp 21)) 0 (.pointer (some ⟨w.heap.size, 0, none⟩)) #[true, true, true, false, false, false, false, false, false, false, false] (by kernel_rfl) (by kernel_rfl) (by kernel_rfl) (by kernel_rfl) (by kernel_rfl) rfl (fun _ _ _ h => h) (fun w _ => rfl) hS ?_
      simp only [Act.put, List.setIfInBounds_toArray, List.set_cons_zero, List.set_cons_succ]
      refine AnyR.take (i := 3) (some 23) (.fieldAddr 53 (.tmp 22) 1) 0 (.pointer (some ⟨w.heap.size, 1, none⟩)) #[true, true, true, true, false, false, false, false, false, false, false] (by kernel_rfl) (by kernel_rfl) (by kernel_rfl) (by kernel_rfl) (by kernel_rfl) rfl (fun _ _ _ h => h) (fun w _ => by kernel_rfl) hS ?_
      simp only [Act.put, List.setIfInBounds_toArray, List.set_cons_zero, List.set_cons_succ]
      refine AnyR.take (i := 4) (some 24) (.load 42 (.tmp 23)) 42 (vB) #[true, true, true, true, true, false, false, false, false, false, false] (by kernel_rfl) (by kernel_rfl) (by kernel_rfl) (by kernel_rfl) (by kernel_rfl) rfl (fun _ _ _ h => h) (fun w hw => val_of (ref_load_beg hw)) hS ?_
      simp only [Act.put, List.setIfInBounds_toArray, List.set_cons_zero, List.set_cons_succ]
      refine AnyR.run (i := 5) (some 25) (.makeSlice 31 (.const (.int .i64 32)) (.const (.int .i64 32))) 31 (.slice (some ⟨wr.heap.size, 0, none⟩) 32 32) (wr.drew.alloc (.cells (bytesV zero32).toArray 5)) #[true, true, true, true, true, true, false, false, false, false, false] (by kernel_rfl) (by kernel_rfl) rfl (val_of (run_make32 _)) (fun _ => hS1) ?_
      simp only [Act.put, List.setIfInBounds_toArray, List.set_cons_zero, List.set_cons_succ]
      refine AnyR.run (i := 6) (some 26) (.buildSlice 42 1 #[(0, .tmp 25)]) 42 (.slice (some ⟨(wr.drew.alloc (.cells (bytesV zero32).toArray 5)).heap.size, 0, none⟩) 1 1) ((wr.drew.alloc (.cells (bytesV zero32).toArray 5)).alloc (.cells #[.slice (some ⟨wr.heap.size, 0, none⟩) 32 32] 31)) #[true, true, true, true, true, true, true, false, false, false, false] (by kernel_rfl) (by kernel_rfl) rfl (slice_of (x := .tmp 25) (run_begin_slice _ _ _)) (fun _ => hS2) ?_
      simp only [Act.put, List.setIfInBounds_toArray, List.set_cons_zero, List.set_cons_succ]
      refine AnyR.run (i := 7) (some 27) (.call { callee := .builtin .append, args := #[.tmp 24, .tmp 26], argTypes := #[42, 42] }) 42 (.slice (some ⟨gg, 0, none⟩) (k + 1) cap1) (W3) #[true, true, true, true, true, true, true, true, false, false, false] (by kernel_rfl) (by kernel_rfl) rfl (append_of (s := .tmp 24) (x := .tmp 26) hap rfl rfl) (fun _ => hS3) ?_
      simp only [Act.put, List.setIfInBounds_toArray, List.set_cons_zero, List.set_cons_succ]
      refine AnyR.run (i := 8) (some 28) (.nilCheck (.tmp 20)) 0 (.pointer (some ⟨w.heap.size, 0, none⟩)) (W3) #[true, true, true, true, true, true, true, true, true, false, false] (by kernel_rfl) (by kernel_rfl) rfl (rfl) (fun _ => hS3) ?_
      simp only [Act.put, List.setIfInBounds_toArray, List.set_cons_zero, List.set_cons_succ]
      refine AnyR.run (i := 9) (some 29) (.fieldAddr 53 (.tmp 28) 1) 0 (.pointer (some ⟨w.heap.size, 1, none⟩)) (W3) #[true, true, true, true, true, true, true, true, true, true, false] (by kernel_rfl) (by kernel_rfl) rfl (by kernel_rfl) (fun _ => hS3) ?_
      simp only [Act.put, List.setIfInBounds_toArray, List.set_cons_zero, List.set_cons_succ]
      refine AnyR.runSkip (i := 10) none (.store 42 (.tmp 29) (.tmp 27)) 0 (W3.setCell ⟨w.heap.size, 1, none⟩ (.slice (some ⟨gg, 0, none⟩) (k + 1) cap1)) #[true, true, true, true, true, true, true, true, true, true, true] (by kernel_rfl) (by kernel_rfl) rfl (skip_of (ref_store_beg hS3 f3)) (fun h => by cases h) ?_
      refine AnyR.none (by kernel_rfl) ?_ _
      go_wp2_with fail
      go_roundw
      case rel => exact ⟨k + 1, by go_num, by omega, HST.out⟩
      case measure => simp [intOf]; omega
    · have hkn' : (n : Int) ≤ (k : Int) := by omega
      obtain rfl : k = n := by omega
      have hpq : ∀ j, refFoot w.heap.size vB (.slice none 0 0) j ∨ (∃ c, wr.heap[j]? = some (.cells c 5 (0, 0))) ∧ w.heap.size ≤ j → w.heap.size ≤ j ∧ j < wr.heap.size := by
        rintro j ((rfl | hj | hj) | ⟨⟨c, hj⟩, hge⟩)
        · exact ⟨Nat.le_refl _, lt_of_some hbox⟩
        · exact hB.lt j hj
        · cases hj
        · exact ⟨hge, lt_of_some hj⟩
      have hfin : ∃ p vB' Y, (some (⟨w.heap.size, 0, none⟩ : Addr) = some ⟨p, 0, none⟩) ∧ RefIs wr Y p k vB' (.slice none 0 0) (fun _ => zero32) [] ∧ (∀ j, Y j → ¬ refFoot p vB' (.slice none 0 0) j) ∧ (∀ j, refFoot p vB' (.slice none 0 0) j ∨ Y j → w.heap.size ≤ j ∧ j < wr.heap.size) ∧ Below w.heap.size w wr := by
        refine ⟨w.heap.size, vB, fun j => (∃ c, wr.heap[j]? = some (.cells c 5 (0, 0))) ∧ w.heap.size ≤ j, rfl, ⟨hbox, ⟨bs, ⟨hB.1, hB.2.imp id (fun ⟨g, cap, cur, e, _, r⟩ => ⟨g, cap, cur, e, Nat.zero_le _, r⟩)⟩, fun i hi => ?_⟩, ⟨[], World.ownsRow_nil _ _ _ _, fun i c hc => by cases hc⟩⟩, ?_, hpq, hb⟩
        · obtain ⟨g, e1, e2, e3⟩ := hBs i hi
          exact ⟨_, e1, _, 32, rfl, bytesAt_blk e2, (show zero32.length = 32 by decide), ⟨Nat.le_refl _, by unfold maxLen; omega⟩, fun g' o e => by injection e with e; rw [← (Addr.mk.inj e).1]; exact ⟨⟨_, e2⟩, e3⟩⟩
        · rintro j ⟨⟨c, hj⟩, _⟩ (rfl | h | h)
          · rw [hbox] at hj
            injection hj with hj
            injection hj with _ hj _
            exact absurd hj (by decide)
          · exact own_ne hB hj (by decide) h
          · cases h
      have HFIN := Lib.hid hfin
      clear hfin hpq hbox hB hBs hb
      go_wp2_with fail
      go_ret2
      obtain ⟨p, vB', Y, e, h3⟩ := HFIN.out
      exact ⟨p, vB', Y, by rw [← e]; rfl, h3⟩
end Go.Proofs.Ytficckhhlhcogaa
