/-
  What New, Read, Write and Sync of package disk return, and what becomes of the disk. Conditions: the disk lies in memory as DiskIs says; the bytes written are 32.
  What Write and Sync of package disk do to a disk. Conditions: the disk lies in memory as DiskIs says; the bytes written are 32, and lie outside the disk.
-/
import Derived.Test.YtpfdlcogldbocaaBuild
namespace Go.Proofs.Ytpfdlcogldbocaa
open Go.RowKit Go.Maps

/-! ### New -/
theorem new_out (x : Int) (w : World) (h : x < 1 ∨ 65536 < x) :
    Calls Try.prog 7 #[.int .i64 x] w fun e w' => e = .returned (.tuple #[.pointer none, .int .i64 1]) ∧ w = w' := by
  by_cases h0 : x < 1
  · clear h
    go_enter Try.func7, Try.ntmps7
    go_wp2
    go_ret2
    exact ⟨rfl, rfl⟩
  · have h1 : 65536 < x := by omega
    have h2 : 1 ≤ x := by omega
    clear h h0
    go_enter Try.func7, Try.ntmps7
    go_wp2
    go_ret2
    exact ⟨rfl, rfl⟩

def NewDisk (w : World) (n : Nat) (e : Ending) (w' : World) : Prop :=
  ∃ p bf bs v, e = .returned (.tuple #[.pointer (some ⟨p, 0, none⟩), .int .i64 0]) ∧ DiskIs w' p bf bs v n 0 (fun _ => none) (fun _ => none) [] ∧ (∀ k, foot p bf bs v k → w.heap.size ≤ k) ∧ Below w.heap.size w w'

theorem new_disk (n : Nat) (w : World) : DiskIs (((w.alloc (.map #[] 0)).alloc (.map #[] 0)).alloc (.cells #[.int .i64 (n : Int), .map (some w.heap.size), .map (some (w.heap.size + 1)), .slice none 0 0] 84)) (w.heap.size + 2) w.heap.size (w.heap.size + 1) (.slice none 0 0) n 0 (fun _ => none) (fun _ => none) [] := by
  have s1 : (w.alloc (.map #[] 0)).heap.size = w.heap.size + 1 := by simp
  have s2 : ((w.alloc (.map #[] 0)).alloc (.map #[] 0)).heap.size = w.heap.size + 2 := by simp
  have m1 := MapIs.made (P := Try.prog) (k := 3) w Try.underlying3
  have m2 := MapIs.made (P := Try.prog) (k := 3) (w.alloc (.map #[] 0)) Try.underlying3
  rw [s1] at m2
  refine ⟨?_, ?_, ?_, World.ownsRow_nil _ _ _ _, by omega, by simp⟩
  · have := heap_alloc_new ((w.alloc (.map #[] 0)).alloc (.map #[] 0)) (.cells #[.int .i64 (n : Int), .map (some w.heap.size), .map (some (w.heap.size + 1)), .slice none 0 0] 84)
    rw [s2] at this
    exact this
  · refine (m1.same (w' := (w.alloc (.map #[] 0)).alloc (.map #[] 0)) (Below.heap_alloc _ _ _ (by simp))).same (Below.heap_alloc _ _ _ (by simp; omega))
  · exact m2.same (Below.heap_alloc _ _ _ (by simp))

theorem new_in (n : Nat) (w : World) (h0 : 1 ≤ n) (h1 : n ≤ 65536) : Calls Try.prog 7 #[.int .i64 (n : Int)] w (NewDisk w n) := by
  have hmm := @run_makeMap Try.prog
  have g0 : (1 : Int) ≤ (n : Int) := by omega
  have g1 : (n : Int) ≤ 65536 := by omega
  have hd := Lib.hid (new_disk n w)
  go_enter Try.func7, Try.ntmps7
  go_wp2_with (go_at_call 32; refine (begun_any _ _ _).mono ?_; rintro e w' ⟨rfl, rfl⟩)
  go_ret2
  refine ⟨w.heap.size + 2, w.heap.size, w.heap.size + 1, .slice none 0 0, rfl, hd.out, ?_, ?_⟩
  · rintro k (rfl | rfl | rfl | hk)
    · omega
    · omega
    · omega
    · cases hk
  · exact (((Below.refl _ _).alloc (Nat.le_refl _) _).alloc (by simp) _).alloc (by simp; omega) _

/-! ### Read -/
def rd (F S : Int → Option (List UInt8)) (x : Int) : List UInt8 := (S x).getD ((F x).getD zero32)

/-- A slice of 32 bytes in a block of its own. -/
def ReadIs (w : World) (l : List UInt8) (e : Ending) (w' : World) : Prop :=
  ∃ g, e = .returned (.tuple #[.slice (some ⟨g, 0, none⟩) 32 32, .int .i64 0]) ∧ w'.heap[g]? = some (.cells (bytesV l).toArray 81 (0, 0)) ∧ w.heap.size ≤ g ∧ Below w.heap.size w w'

theorem read_out (p n : Nat) (x : Int) (w : World) (hc : w.cell? ⟨p, 0, none⟩ = some (.int .i64 (n : Int))) (h : x < 0 ∨ (n : Int) ≤ x) :
    Calls Try.prog 27 #[.pointer (some ⟨p, 0, none⟩), .int .i64 x] w fun e w' => e = .returned (.tuple #[.slice none 0 0, .int .i64 21]) ∧ w = w' := by
  have H := Lib.hid h
  have HC := Lib.hid hc
  clear h
  go_enter Try.func27, Try.ntmps27
  go_wp2_with (go_at_call 46; refine (has_no p n _ _ HC.out H.out).mono ?_; rintro e w' ⟨rfl, rfl⟩)
  go_ret2
  exact ⟨rfl, rfl⟩

theorem write_out (p n : Nat) (x : Int) (b : Value) (w : World) (hc : w.cell? ⟨p, 0, none⟩ = some (.int .i64 (n : Int))) (h : x < 0 ∨ (n : Int) ≤ x) :
    Calls Try.prog 16 #[.pointer (some ⟨p, 0, none⟩), .int .i64 x, b] w fun e w' => e = .returned (.int .i64 21) ∧ w = w' := by
  have H := Lib.hid h
  have HC := Lib.hid hc
  clear h
  go_enter Try.func16, Try.ntmps16
  go_wp2_with (go_at_call 46; refine (has_no p n _ _ HC.out H.out).mono ?_; rintro e w' ⟨rfl, rfl⟩)
  go_ret
  exact ⟨rfl, rfl⟩

theorem write_len (p n : Nat) (x : Int) (A : Option Addr) (m cap : Nat) (w : World) (hc : w.cell? ⟨p, 0, none⟩ = some (.int .i64 (n : Int))) (h0 : 0 ≤ x) (h1 : x < n) (hm : m ≠ 32) :
    Calls Try.prog 16 #[.pointer (some ⟨p, 0, none⟩), .int .i64 x, .slice A m cap] w fun e w' => e = .returned (.int .i64 1) ∧ w = w' := by
  have HC := Lib.hid hc
  have e1 : ((m : Int) != 32) = true := by simp; omega
  clear hc hm
  go_enter Try.func16, Try.ntmps16
  go_wp2_with (go_at_call 46; refine (has_yes p n _ _ HC.out h0 h1).mono ?_; rintro e w' ⟨rfl, rfl⟩)
  go_ret
  exact ⟨rfl, rfl⟩

/-- The block that Read lays, once it holds the block's bytes. -/
theorem wpList_store_new {P : Program} {ops : Array Oper} {rest : List Oper} {d : Option Tmp} {ty tt : TypeId} {ps : String} {af : Array Edge} {a : Act} {w : World} {Q : Exit → Act → World → Prop} {x y : Tmp} {c cells : Array Value}
    (hx : a.eval (.tmp x) = .pointer (some ⟨w.heap.size, 0, none⟩)) (hy : a.eval (.tmp y) = .agg cells)
    (hi : (P.info? ty).map (·.size) = some cells.size) (hc : c.size = cells.size) (h1 : cells.all (·.oneCell') = true)
    (h : wpList P ops Q rest (a.put d undef) (w.alloc (.cells cells ty))) : wpList P ops Q ({ dst := d, op := .store ty (.tmp x) (.tmp y), type := tt, pos := ps, after := af, guard := none } :: rest) a (w.alloc (.cells c ty)) := by
  refine wpList_plain rfl fun K hK => ?_
  unfold Oper.wp execOp
  simp only [hx, hy, Sem.run_bind, Sem.run_pure, Result.andThen_ok, run_storeAt_new w ty c cells hi hc h1]
  exact hK _ _ h
theorem all_bytesV (l : List UInt8) : (bytesV l).toArray.all (·.oneCell') = true := all_oneCell_toArray oneCell_bytesV

theorem rd_some {F S : Int → Option (List UInt8)} {x : Int} (h : (S x).isSome = true) : (S x).getD zero32 = rd F S x := by
  unfold rd
  cases hs : S x with
  | none => rw [hs] at h; cases h
  | some l => rfl
theorem rd_none {F S : Int → Option (List UInt8)} {x : Int} (h : (S x).isSome = false) : (F x).getD zero32 = rd F S x := by
  unfold rd
  cases hs : S x with
  | none => rfl
  | some l => rw [hs] at h; cases h

set_option maxRecDepth 100000 in
set_option maxHeartbeats 1000000 in
theorem read_in (p bf bs : Nat) (v : Value) (n kf : Nat) (F S : Int → Option (List UInt8)) (cs : List CallM) (x : Int) (w : World) (h : DiskIs w p bf bs v n kf F S cs) (h0 : 0 ≤ x) (h1 : x < n) (hn : n ≤ 65536)
    (hF : ∀ l, F x = some l → l.length = 32) (hS : ∀ l, S x = some l → l.length = 32) :
    Calls Try.prog 27 #[.pointer (some ⟨p, 0, none⟩), .int .i64 x] w (ReadIs w (rd F S x)) := by
  have HC := Lib.hid h.cell0
  have c2 := h.cell2
  have c1 := h.cell1
  have c1a : (w.alloc (.cells (bytesV ((S x).getD zero32)).toArray 81)).cell? ⟨p, 1, none⟩ = some (.map (some bf)) := (World.cell?_alloc_lt w _ _ (World.block_lt_of_cell? w _ c1)).trans c1
  have hx : (Lit.int .i64 x).wf = true := by go_wf
  have L2 := h.2.2.1.look_ok (t := 68) Try.underlying3 Try.underlying68 zeroBlock hx
  have L1 : ∀ o, (Instr.lookup 68 (.map (some bf)) (.int .i64 x) false).run Try.prog (w.alloc o) = .ok (blk ((F x).getD zero32)) (w.alloc o) := fun o => (h.2.1.same (w' := w.alloc o) (Below.heap_alloc _ _ _ h.2.1.lt)).look Try.underlying3 Try.underlying68 zeroBlock hx
  have l2 : ((S x).getD zero32).length = 32 := by cases hs : S x with | none => rfl | some l => exact hS l hs
  have l1 : ((F x).getD zero32).length = 32 := by cases hs : F x with | none => rfl | some l => exact hF l hs
  unfold blk at L1 L2
  have s2 : (Try.prog.info? 81).map (·.size) = some (bytesV ((S x).getD zero32)).toArray.size := by rw [size_block]; simp [length_bytesV, l2]
  have s1 : (Try.prog.info? 81).map (·.size) = some (bytesV ((F x).getD zero32)).toArray.size := by rw [size_block]; simp [length_bytesV, l1]
  have t2 : 32 = (bytesV ((S x).getD zero32)).toArray.size := by simp [length_bytesV, l2]
  have t1 : (bytesV ((S x).getD zero32)).toArray.size = (bytesV ((F x).getD zero32)).toArray.size := by simp [length_bytesV, l1, l2]
  have S2 := Lib.hid s2
  have S1 := Lib.hid s1
  have T2 := Lib.hid t2
  have T1 := Lib.hid t1
  cases hb : (S x).isSome with
  | true =>
    have HR := Lib.hid (rd_some (F := F) hb)
    rw [hb] at L2
    clear h hF hS hb l1 l2 L1 s1 s2 t1 t2 T1 S1 c1 c1a
    go_enter Try.func27, Try.ntmps27
    go_wp2_with (first
      | (go_at_call 46; refine (has_yes p n _ _ HC.out h0 h1).mono ?_; rintro e w' ⟨rfl, rfl⟩)
      | (refine wpList_store_new (x := 6) (y := 21) (cells := (bytesV ((S x).getD zero32)).toArray) rfl rfl S2.out T2.out (all_bytesV _) ?_))
    go_ret2
    refine ⟨w.heap.size, rfl, ?_, Nat.le_refl _, (Below.refl _ _).alloc (Nat.le_refl _) _⟩
    rw [← HR.out]
    exact heap_alloc_new w _
  | false =>
    have HR := Lib.hid (rd_none (F := F) hb)
    rw [hb] at L2
    clear h hF hS hb l1 l2 s1 s2 t1 t2
    go_enter Try.func27, Try.ntmps27
    go_wp2_with (first
      | (go_at_call 46; refine (has_yes p n _ _ HC.out h0 h1).mono ?_; rintro e w' ⟨rfl, rfl⟩)
      | (refine wpList_store_new (x := 6) (y := 21) (cells := (bytesV ((S x).getD zero32)).toArray) rfl rfl S2.out T2.out (all_bytesV _) ?_)
      | (refine wpList_store_new (x := 6) (y := 30) (cells := (bytesV ((F x).getD zero32)).toArray) rfl rfl S1.out T1.out (all_bytesV _) ?_))
    go_ret2
    refine ⟨w.heap.size, rfl, ?_, Nat.le_refl _, (Below.refl _ _).alloc (Nat.le_refl _) _⟩
    rw [← HR.out]
    exact heap_alloc_new w _
end Go.Proofs.Ytpfdlcogldbocaa

namespace Go.Proofs.Ytpfdlcogldbocaa
open Go.RowKit Go.Maps
attribute [local go_sem ↓] Go.wp_at_zero Go.wp_at_succ

def Wrote (w : World) (p bf bs : Nat) (v : Value) (n kf : Nat) (F S : Int → Option (List UInt8)) (cs : List CallM) (e : Ending) (w' : World) : Prop :=
  e = .returned (.int .i64 0) ∧ ∃ v', DiskIs w' p bf bs v' n kf F S cs ∧ (v'.ownBlock = v.ownBlock ∨ ∃ g, v'.ownBlock = some g ∧ w.heap.size ≤ g) ∧ Turned (foot p bf bs v) w w'

theorem own_ne {w : World} {base : Nat} {e : TypeId} {size n : Nat} {v : Value} {xs : List Value} (h : w.ownsRow base e size v n xs) {g : Nat} {cs : Array Value} {t : TypeId} {fr : Nat × Nat} (hg : w.heap[g]? = some (.cells cs t fr)) (hne : e ≠ t) : v.ownBlock ≠ some g := by
  rcases h.2 with ⟨rfl, _⟩ | ⟨g', cap, cur, rfl, _, hh, _⟩
  · simp [Value.ownBlock]
  · intro he
    have : g' = g := by simpa [Value.ownBlock] using he
    subst this
    rw [hh] at hg
    injection hg with hg
    injection hg with _ ht
    exact hne ht
theorem own_ne_map {w : World} {base : Nat} {e : TypeId} {size n : Nat} {v : Value} {xs : List Value} (h : w.ownsRow base e size v n xs) {g : Nat} {es : Array MapEntry} {c : Nat} (hg : w.heap[g]? = some (.map es c)) : v.ownBlock ≠ some g := by
  rcases h.2 with ⟨rfl, _⟩ | ⟨g', cap, cur, rfl, _, hh, _⟩
  · simp [Value.ownBlock]
  · intro he
    have : g' = g := by simpa [Value.ownBlock] using he
    subst this
    rw [hh] at hg
    cases hg

theorem cell_behind {w w1 : World} {o : Obj} {row : Option Nat} (hg : (w.alloc o).grownBy w1 row) {a : Addr} {v : Value} (hc : w.cell? a = some v) (hne : row ≠ some a.block) : w1.cell? a = some v := by
  have lt := World.block_lt_of_cell? w _ hc
  rw [hg.cell_far a (by simp; omega) (Ne.symm hne), World.cell?_alloc_lt w _ _ lt]
  exact hc
theorem frozen_behind {w w1 : World} {o : Obj} {row : Option Nat} (hg : (w.alloc o).grownBy w1 row) {a : Addr} {v : Value} (hc : w.cell? a = some v) (hf : w.frozen? a = false) (hne : row ≠ some a.block) : w1.frozen? a = false := by
  have lt := World.block_lt_of_cell? w _ hc
  rw [hg.frozen_far a (by simp; omega) (Ne.symm hne), World.frozen?_of_block (Below.heap_alloc w o a.block lt)]
  exact hf
theorem cell_grown {W w1 : World} {row : Option Nat} (hg : W.grownBy w1 row) {a : Addr} {v : Value} (hc : W.cell? a = some v) (hne : row ≠ some a.block) : w1.cell? a = some v :=
  (hg.cell_far a (World.block_lt_of_cell? W _ hc) (Ne.symm hne)).trans hc
theorem frozen_grown {W w1 : World} {row : Option Nat} (hg : W.grownBy w1 row) {a : Addr} {v : Value} (hc : W.cell? a = some v) (hf : W.frozen? a = false) (hne : row ≠ some a.block) : w1.frozen? a = false :=
  (hg.frozen_far a (World.block_lt_of_cell? W _ hc) (Ne.symm hne)).trans hf
/-- A new block, then growth in one row: as one turn. -/
theorem turned_behind {w w1 : World} {o : Obj} {v : Value} (hg : (w.alloc o).grownBy w1 v.ownBlock) : Turned (fun k => v.ownBlock = some k) w w1 :=
  ⟨hg.os, hg.tape, hg.output, Nat.le_trans (by simp) hg.size, fun k hk hn => (hg.block k (by simp; omega) (fun e => hn e.symm)).trans (Below.heap_alloc w o k hk)⟩
/-- A slice out of a cell, a slice into a cell, an append, as the instructions run. -/
theorem load_slot {w : World} {a : Addr} {v : Value} (h : w.cell? a = some v) : (Instr.loadAt 82 (.pointer (some a))).run Try.prog w = .ok v w := by
  go_simp
theorem store_slot {w : World} {a : Addr} {u : Value} {A : Option Addr} {n c : Nat} (h : w.cell? a = some u) (hf : w.frozen? a = false) : (Instr.storeAt 82 (.pointer (some a)) (.slice A n c)).run Try.prog w = .ok () (w.setCell a (.slice A n c)) := by
  go_simp
theorem append_of {P : Program} {w w' : World} {v u r : Value} {ρ : Operand → Value} {s x : Operand} {t ty : TypeId} {d : Option Tmp} (h : (Builtin.append_ #[t, t] ty #[ρ s, ρ x]).run P w = .ok r w') (hv : ρ s = v) (hu : ρ x = u) :
    (execOp ρ { dst := d, op := .call { callee := .builtin .append, args := #[s, x], argTypes := #[t, t] }, type := ty, pos := "", after := #[], guard := none }).run P w = .ok (.value r) w' := by
  have _ := hv
  have _ := hu
  unfold execOp
  simp [resolve, invoke, builtin, h, Result.andThen]
theorem build_of {P : Program} {w w' : World} {r : Value} {ρ : Operand → Value} {x y : Operand} {i j : Nat} {t ty : TypeId} {d : Option Tmp} (h : (Instr.build t #[(i, ρ x), (j, ρ y)]).run P w = .ok r w') :
    (execOp ρ { dst := d, op := .build t #[(i, x), (j, y)], type := ty, pos := "", after := #[], guard := none }).run P w = .ok (.value r) w' := by
  unfold execOp
  simp [h, Result.andThen]
theorem slice_of {P : Program} {w w' : World} {r : Value} {ρ : Operand → Value} {x : Operand} {n i : Nat} {t ty : TypeId} {d : Option Tmp} (h : (Instr.buildSlice t n #[(i, ρ x)]).run P w = .ok r w') :
    (execOp ρ { dst := d, op := .buildSlice t n #[(i, x)], type := ty, pos := "", after := #[], guard := none }).run P w = .ok (.value r) w' := by
  unfold execOp
  simp [h, Result.andThen]
theorem turned_grown {w W w1 : World} {v : Value} (hg : W.grownBy w1 v.ownBlock) (hb : Below w.heap.size w W) : Turned (fun k => v.ownBlock = some k) w w1 :=
  ⟨hg.os.trans hb.os, hg.tape.trans hb.tape, hg.output.trans hb.output, Nat.le_trans hb.size hg.size, fun k hk hn => (hg.block k (Nat.lt_of_lt_of_le hk hb.size) (fun e => hn e.symm)).trans (hb.block k hk)⟩
theorem callOk (x : Int) (l : List UInt8) (hl : l.length = 32) (hx : (Lit.int .i64 x).wf = true) : CallM.ok ⟨false, x, l⟩ := ⟨hl, hx⟩
theorem syncOk : CallM.ok syncM := ⟨rfl, by decide⟩

/-- The disk behind an append to its calls and the store of the new slice. -/
theorem disk_of {w w1 w2 : World} {p bf bs : Nat} {v : Value} {n kf : Nat} {F S S' : Int → Option (List UInt8)} {cs : List CallM} {c : CallM} {g cap : Nat}
    (h : DiskIs w p bf bs v n kf F S cs) (hc : c.ok) (hm1 : MapIs Try.prog 3 w1 bs (cs.length + 1) S') (hg1 : Turned (fun k => k = bs) w w1)
    (hown : w2.ownsRow 0 86 34 (.slice (some ⟨g, 0, none⟩) (cs.length + 1) cap) (cs.length + 1) (callsV cs ++ c.cells)) (hg2 : Turned (fun k => v.ownBlock = some k) w1 w2) (hat : v.ownBlock = some g ∨ w.heap.size ≤ g) :
    Wrote w p bf bs v n kf F S' (cs ++ [c]) (.returned (.int .i64 0)) (w2.setCell ⟨p, 3, none⟩ (.slice (some ⟨g, 0, none⟩) (cs.length + 1) cap)) := by
  obtain ⟨h1, h2, h3, h4, h5, h6⟩ := h
  have np := own_ne h4 h1 (by decide)
  obtain ⟨ef, cf, ef1⟩ := h2.obj
  obtain ⟨es, cs1, es1⟩ := h3.obj
  have nf := own_ne_map h4 ef1
  have ns := own_ne_map h4 es1
  have pf := h2.ne_cells h1
  have ps := h3.ne_cells h1
  have p1 := hg1.obj h1 ps
  have p2 := hg2.obj p1 np
  have f2 : MapIs Try.prog 3 w2 bf kf F := (h2.turned hg1 h5).turned hg2 nf
  have s2 : MapIs Try.prog 3 w2 bs (cs.length + 1) S' := hm1.turned hg2 ns
  have gp : g ≠ p := by
    rintro rfl
    have := own_ne hown p2 (by decide)
    exact this rfl
  have t1 : Turned (foot p bf bs v) w w2 := ⟨hg2.os.trans hg1.os, hg2.tape.trans hg1.tape, hg2.output.trans hg1.output, Nat.le_trans hg1.size hg2.size, fun k hk hn => (hg2.block k (Nat.lt_of_lt_of_le hk hg1.size) (fun e => hn (.inr (.inr (.inr e))))).trans (hg1.block k hk (fun e => hn (.inr (.inr (.inl e)))))⟩
  refine ⟨rfl, .slice (some ⟨g, 0, none⟩) (cs.length + 1) cap, ⟨?_, ?_, ?_, ?_, h5, ?_⟩, ?_, ?_⟩
  · have := heap_setCell_same w2 p 3 _ _ (.slice (some ⟨g, 0, none⟩) (cs.length + 1) cap) p2
    exact this
  · exact f2.same (Below.heap_setCell _ _ _ _ (fun e => pf e.symm))
  · rw [List.length_append]
    exact s2.same (Below.heap_setCell _ _ _ _ (fun e => ps e.symm))
  · rw [List.length_append, callsV_append, callsV_one]
    exact ownsRow_setCell_other hown (by simp [Value.ownBlock]; exact gp) _
  · intro c' hc'
    rcases List.mem_append.1 hc' with hc' | hc'
    · exact h6 c' hc'
    · have : c' = c := by simpa using hc'
      rw [this]; exact hc
  · rcases hat with hat | hat
    · exact .inl (by rw [hat]; rfl)
    · exact .inr ⟨g, rfl, hat⟩
  · exact ⟨t1.os, t1.tape, t1.output, by simpa [World.setCell] using t1.size, fun k hk hn => (Below.heap_setCell _ _ _ _ (fun e => hn (.inl e))).trans (t1.block k hk hn)⟩
end Go.Proofs.Ytpfdlcogldbocaa
