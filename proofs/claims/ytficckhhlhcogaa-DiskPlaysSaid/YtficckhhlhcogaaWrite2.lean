/-
  What Write and Sync of package disk do to a disk. Conditions: the disk lies in memory as DiskIs says; the bytes written are 32, and lie outside the disk.
-/
import Derived.Test.YtficckhhlhcogaaWrite
namespace Go.Proofs.Ytficckhhlhcogaa
open Go.RowKit Go.Maps
attribute [local go_sem ↓] Go.wp_at_zero Go.wp_at_succ

def Wrote (w : World) (p bf bs : Nat) (v : Value) (n kf : Nat) (F S : Int → Option (List UInt8)) (cs : List CallM) (e : Ending) (w' : World) : Prop :=
  e = .returned (.int .i64 0) ∧ ∃ v', DiskIs w' p bf bs v' n kf F S cs ∧ (v'.ownBlock = v.ownBlock ∨ ∃ g, v'.ownBlock = some g ∧ w.heap.size ≤ g) ∧ Turned (foot p bf bs v) w w'

theorem own_ne {w : World} {base : Nat} {e : TypeId} {size n : Nat} {v : Value} {xs : List Value} (h : w.ownsRow base e size v n xs) {g : Nat} {cs : Array Value} {t : TypeId} {fr : Nat × Nat} (hg : w.heap[g]? = some (.cells cs t fr)) (hne : e ≠ t) : v.ownBlock ≠ some g := by
  rcases h.2 with ⟨rfl, _⟩ | ⟨g', cap, cur, rfl, _, hh, _⟩
  · simp [Value.ownBlock]
  · intro he
    have : g' = g := by simpa [Value.ownBlock] using he
    subst this
    rw [hh] at hg
    injection hg with hg
    injection hg with _ ht
    exact hne ht
theorem own_ne_map {w : World} {base : Nat} {e : TypeId} {size n : Nat} {v : Value} {xs : List Value} (h : w.ownsRow base e size v n xs) {g : Nat} {es : Array MapEntry} {c : Nat} (hg : w.heap[g]? = some (.map es c)) : v.ownBlock ≠ some g := by
  rcases h.2 with ⟨rfl, _⟩ | ⟨g', cap, cur, rfl, _, hh, _⟩
  · simp [Value.ownBlock]
  · intro he
    have : g' = g := by simpa [Value.ownBlock] using he
    subst this
    rw [hh] at hg
    cases hg

theorem cell_behind {w w1 : World} {o : Obj} {row : Option Nat} (hg : (w.alloc o).grownBy w1 row) {a : Addr} {v : Value} (hc : w.cell? a = some v) (hne : row ≠ some a.block) : w1.cell? a = some v := by
  have lt := World.block_lt_of_cell? w _ hc
  rw [hg.cell_far a (by simp; omega) (Ne.symm hne), World.cell?_alloc_lt w _ _ lt]
  exact hc
theorem frozen_behind {w w1 : World} {o : Obj} {row : Option Nat} (hg : (w.alloc o).grownBy w1 row) {a : Addr} {v : Value} (hc : w.cell? a = some v) (hf : w.frozen? a = false) (hne : row ≠ some a.block) : w1.frozen? a = false := by
  have lt := World.block_lt_of_cell? w _ hc
  rw [hg.frozen_far a (by simp; omega) (Ne.symm hne), World.frozen?_of_block (Below.heap_alloc w o a.block lt)]
  exact hf
theorem cell_grown {W w1 : World} {row : Option Nat} (hg : W.grownBy w1 row) {a : Addr} {v : Value} (hc : W.cell? a = some v) (hne : row ≠ some a.block) : w1.cell? a = some v :=
  (hg.cell_far a (World.block_lt_of_cell? W _ hc) (Ne.symm hne)).trans hc
theorem frozen_grown {W w1 : World} {row : Option Nat} (hg : W.grownBy w1 row) {a : Addr} {v : Value} (hc : W.cell? a = some v) (hf : W.frozen? a = false) (hne : row ≠ some a.block) : w1.frozen? a = false :=
  (hg.frozen_far a (World.block_lt_of_cell? W _ hc) (Ne.symm hne)).trans hf
/-- A new block, then growth in one row: as one turn. -/
theorem turned_behind {w w1 : World} {o : Obj} {v : Value} (hg : (w.alloc o).grownBy w1 v.ownBlock) : Turned (fun k => v.ownBlock = some k) w w1 :=
  ⟨hg.os, hg.tape, hg.output, Nat.le_trans (by simp) hg.size, fun k hk hn => (hg.block k (by simp; omega) (fun e => hn e.symm)).trans (Below.heap_alloc w o k hk)⟩
/-- A slice out of a cell, a slice into a cell, an append, as the instructions run. -/
theorem load_slot {w : World} {a : Addr} {v : Value} (h : w.cell? a = some v) : (Instr.loadAt 57 (.pointer (some a))).run Try.prog w = .ok v w := by
  go_simp
theorem store_slot {w : World} {a : Addr} {u : Value} {A : Option Addr} {n c : Nat} (h : w.cell? a = some u) (hf : w.frozen? a = false) : (Instr.storeAt 57 (.pointer (some a)) (.slice A n c)).run Try.prog w = .ok () (w.setCell a (.slice A n c)) := by
  go_simp
theorem append_of {P : Program} {w w' : World} {v u r : Value} {ρ : Operand → Value} {s x : Operand} {t ty : TypeId} {d : Option Tmp} (h : (Builtin.append_ #[t, t] ty #[ρ s, ρ x]).run P w = .ok r w') (hv : ρ s = v) (hu : ρ x = u) :
    (execOp ρ { dst := d, op := .call { callee := .builtin .append, args := #[s, x], argTypes := #[t, t] }, type := ty, pos := "", after := #[], guard := none }).run P w = .ok (.value r) w' := by
  have _ := hv
  have _ := hu
  unfold execOp
  simp [resolve, invoke, builtin, h, Result.andThen]
theorem build_of {P : Program} {w w' : World} {r : Value} {ρ : Operand → Value} {x y : Operand} {i j : Nat} {t ty : TypeId} {d : Option Tmp} (h : (Instr.build t #[(i, ρ x), (j, ρ y)]).run P w = .ok r w') :
    (execOp ρ { dst := d, op := .build t #[(i, x), (j, y)], type := ty, pos := "", after := #[], guard := none }).run P w = .ok (.value r) w' := by
  unfold execOp
  simp [h, Result.andThen]
theorem slice_of {P : Program} {w w' : World} {r : Value} {ρ : Operand → Value} {x : Operand} {n i : Nat} {t ty : TypeId} {d : Option Tmp} (h : (Instr.buildSlice t n #[(i, ρ x)]).run P w = .ok r w') :
    (execOp ρ { dst := d, op := .buildSlice t n #[(i, x)], type := ty, pos := "", after := #[], guard := none }).run P w = .ok (.value r) w' := by
  unfold execOp
  simp [h, Result.andThen]
theorem turned_grown {w W w1 : World} {v : Value} (hg : W.grownBy w1 v.ownBlock) (hb : Below w.heap.size w W) : Turned (fun k => v.ownBlock = some k) w w1 :=
  ⟨hg.os.trans hb.os, hg.tape.trans hb.tape, hg.output.trans hb.output, Nat.le_trans hb.size hg.size, fun k hk hn => (hg.block k (Nat.lt_of_lt_of_le hk hb.size) (fun e => hn e.symm)).trans (hb.block k hk)⟩
theorem callOk (x : Int) (l : List UInt8) (hl : l.length = 32) (hx : (Lit.int .i64 x).wf = true) : CallM.ok ⟨false, x, l⟩ := ⟨hl, hx⟩
theorem syncOk : CallM.ok syncM := ⟨rfl, by decide⟩

/-- The disk behind an append to its calls and the store of the new slice. -/
theorem disk_of {w w1 w2 : World} {p bf bs : Nat} {v : Value} {n kf : Nat} {F S S' : Int → Option (List UInt8)} {cs : List CallM} {c : CallM} {g cap : Nat}
    (h : DiskIs w p bf bs v n kf F S cs) (hc : c.ok) (hm1 : MapIs Try.prog 3 w1 bs (cs.length + 1) S') (hg1 : Turned (fun k => k = bs) w w1)
    (hown : w2.ownsRow 0 61 34 (.slice (some ⟨g, 0, none⟩) (cs.length + 1) cap) (cs.length + 1) (callsV cs ++ c.cells)) (hg2 : Turned (fun k => v.ownBlock = some k) w1 w2) (hat : v.ownBlock = some g ∨ w.heap.size ≤ g) :
    Wrote w p bf bs v n kf F S' (cs ++ [c]) (.returned (.int .i64 0)) (w2.setCell ⟨p, 3, none⟩ (.slice (some ⟨g, 0, none⟩) (cs.length + 1) cap)) := by
  obtain ⟨h1, h2, h3, h4, h5, h6⟩ := h
  have np := own_ne h4 h1 (by decide)
  obtain ⟨ef, cf, ef1⟩ := h2.obj
  obtain ⟨es, cs1, es1⟩ := h3.obj
  have nf := own_ne_map h4 ef1
  have ns := own_ne_map h4 es1
  have pf := h2.ne_cells h1
  have ps := h3.ne_cells h1
  have p1 := hg1.obj h1 ps
  have p2 := hg2.obj p1 np
  have f2 : MapIs Try.prog 3 w2 bf kf F := (h2.turned hg1 h5).turned hg2 nf
  have s2 : MapIs Try.prog 3 w2 bs (cs.length + 1) S' := hm1.turned hg2 ns
  have gp : g ≠ p := by
    rintro rfl
    have := own_ne hown p2 (by decide)
    exact this rfl
  have t1 : Turned (foot p bf bs v) w w2 := ⟨hg2.os.trans hg1.os, hg2.tape.trans hg1.tape, hg2.output.trans hg1.output, Nat.le_trans hg1.size hg2.size, fun k hk hn => (hg2.block k (Nat.lt_of_lt_of_le hk hg1.size) (fun e => hn (.inr (.inr (.inr e))))).trans (hg1.block k hk (fun e => hn (.inr (.inr (.inl e)))))⟩
  refine ⟨rfl, .slice (some ⟨g, 0, none⟩) (cs.length + 1) cap, ⟨?_, ?_, ?_, ?_, h5, ?_⟩, ?_, ?_⟩
  · have := heap_setCell_same w2 p 3 _ _ (.slice (some ⟨g, 0, none⟩) (cs.length + 1) cap) p2
    exact this
  · exact f2.same (Below.heap_setCell _ _ _ _ (fun e => pf e.symm))
  · rw [List.length_append]
    exact s2.same (Below.heap_setCell _ _ _ _ (fun e => ps e.symm))
  · rw [List.length_append, callsV_append, callsV_one]
    exact ownsRow_setCell_other hown (by simp [Value.ownBlock]; exact gp) _
  · intro c' hc'
    rcases List.mem_append.1 hc' with hc' | hc'
    · exact h6 c' hc'
    · have : c' = c := by simpa using hc'
      rw [this]; exact hc
  · rcases hat with hat | hat
    · exact .inl (by rw [hat]; rfl)
    · exact .inr ⟨g, rfl, hat⟩
  · exact ⟨t1.os, t1.tape, t1.output, by simpa [World.setCell] using t1.size, fun k hk hn => (Below.heap_setCell _ _ _ _ (fun e => hn (.inl e))).trans (t1.block k hk hn)⟩
end Go.Proofs.Ytficckhhlhcogaa
