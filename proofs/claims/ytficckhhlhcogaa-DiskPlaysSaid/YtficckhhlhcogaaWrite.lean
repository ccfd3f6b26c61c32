/-
  What New, Read, Write and Sync of package disk return, and what becomes of the disk. Conditions: the disk lies in memory as DiskIs says; the bytes written are 32.
-/
import Derived.Test.YtficckhhlhcogaaBuild
namespace Go.Proofs.Ytficckhhlhcogaa
open Go.RowKit Go.Maps

/-! ### New -/
theorem new_out (x : Int) (w : World) (h : x < 1 ∨ 65536 < x) :
    Calls Try.prog 8 #[.int .i64 x] w fun e w' => e = .returned (.tuple #[.pointer none, .int .i64 1]) ∧ w = w' := by
  by_cases h0 : x < 1
  · clear h
    go_enter Try.func8, Try.ntmps8
    go_wp2
    go_ret2
    exact ⟨rfl, rfl⟩
  · have h1 : 65536 < x := by omega
    have h2 : 1 ≤ x := by omega
    clear h h0
    go_enter Try.func8, Try.ntmps8
    go_wp2
    go_ret2
    exact ⟨rfl, rfl⟩

def NewDisk (w : World) (n : Nat) (e : Ending) (w' : World) : Prop :=
  ∃ p bf bs v, e = .returned (.tuple #[.pointer (some ⟨p, 0, none⟩), .int .i64 0]) ∧ DiskIs w' p bf bs v n 0 (fun _ => none) (fun _ => none) [] ∧ (∀ k, foot p bf bs v k → w.heap.size ≤ k) ∧ Below w.heap.size w w'

theorem new_disk (n : Nat) (w : World) : DiskIs (((w.alloc (.map #[] 0)).alloc (.map #[] 0)).alloc (.cells #[.int .i64 (n : Int), .map (some w.heap.size), .map (some (w.heap.size + 1)), .slice none 0 0] 59)) (w.heap.size + 2) w.heap.size (w.heap.size + 1) (.slice none 0 0) n 0 (fun _ => none) (fun _ => none) [] := by
  have s1 : (w.alloc (.map #[] 0)).heap.size = w.heap.size + 1 := by simp
  have s2 : ((w.alloc (.map #[] 0)).alloc (.map #[] 0)).heap.size = w.heap.size + 2 := by simp
  have m1 := MapIs.made (P := Try.prog) (k := 3) w Try.underlying3
  have m2 := MapIs.made (P := Try.prog) (k := 3) (w.alloc (.map #[] 0)) Try.underlying3
  rw [s1] at m2
  refine ⟨?_, ?_, ?_, World.ownsRow_nil _ _ _ _, by omega, by simp⟩
  · have := heap_alloc_new ((w.alloc (.map #[] 0)).alloc (.map #[] 0)) (.cells #[.int .i64 (n : Int), .map (some w.heap.size), .map (some (w.heap.size + 1)), .slice none 0 0] 59)
    rw [s2] at this
    exact this
  · refine (m1.same (w' := (w.alloc (.map #[] 0)).alloc (.map #[] 0)) (Below.heap_alloc _ _ _ (by simp))).same (Below.heap_alloc _ _ _ (by simp; omega))
  · exact m2.same (Below.heap_alloc _ _ _ (by simp))

theorem new_in (n : Nat) (w : World) (h0 : 1 ≤ n) (h1 : n ≤ 65536) : Calls Try.prog 8 #[.int .i64 (n : Int)] w (NewDisk w n) := by
  have hmm := @run_makeMap Try.prog
  have g0 : (1 : Int) ≤ (n : Int) := by omega
  have g1 : (n : Int) ≤ 65536 := by omega
  have hd := Lib.hid (new_disk n w)
  go_enter Try.func8, Try.ntmps8
  go_wp2_with (go_at_call 20; refine (begun_any _ _ _).mono ?_; rintro e w' ⟨rfl, rfl⟩)
  go_ret2
  refine ⟨w.heap.size + 2, w.heap.size, w.heap.size + 1, .slice none 0 0, rfl, hd.out, ?_, ?_⟩
  · rintro k (rfl | rfl | rfl | hk)
    · omega
    · omega
    · omega
    · cases hk
  · exact (((Below.refl _ _).alloc (Nat.le_refl _) _).alloc (by simp) _).alloc (by simp; omega) _

/-! ### Read -/
def rd (F S : Int → Option (List UInt8)) (x : Int) : List UInt8 := (S x).getD ((F x).getD zero32)

/-- A slice of 32 bytes in a block of its own. -/
def ReadIs (w : World) (l : List UInt8) (e : Ending) (w' : World) : Prop :=
  ∃ g, e = .returned (.tuple #[.slice (some ⟨g, 0, none⟩) 32 32, .int .i64 0]) ∧ w'.heap[g]? = some (.cells (bytesV l).toArray 56 (0, 0)) ∧ w.heap.size ≤ g ∧ Below w.heap.size w w'

theorem read_out (p n : Nat) (x : Int) (w : World) (hc : w.cell? ⟨p, 0, none⟩ = some (.int .i64 (n : Int))) (h : x < 0 ∨ (n : Int) ≤ x) :
    Calls Try.prog 18 #[.pointer (some ⟨p, 0, none⟩), .int .i64 x] w fun e w' => e = .returned (.tuple #[.slice none 0 0, .int .i64 21]) ∧ w = w' := by
  have H := Lib.hid h
  have HC := Lib.hid hc
  clear h
  go_enter Try.func18, Try.ntmps18
  go_wp2_with (go_at_call 21; refine (has_no p n _ _ HC.out H.out).mono ?_; rintro e w' ⟨rfl, rfl⟩)
  go_ret2
  exact ⟨rfl, rfl⟩

theorem write_out (p n : Nat) (x : Int) (b : Value) (w : World) (hc : w.cell? ⟨p, 0, none⟩ = some (.int .i64 (n : Int))) (h : x < 0 ∨ (n : Int) ≤ x) :
    Calls Try.prog 10 #[.pointer (some ⟨p, 0, none⟩), .int .i64 x, b] w fun e w' => e = .returned (.int .i64 21) ∧ w = w' := by
  have H := Lib.hid h
  have HC := Lib.hid hc
  clear h
  go_enter Try.func10, Try.ntmps10
  go_wp2_with (go_at_call 21; refine (has_no p n _ _ HC.out H.out).mono ?_; rintro e w' ⟨rfl, rfl⟩)
  go_ret
  exact ⟨rfl, rfl⟩

theorem write_len (p n : Nat) (x : Int) (A : Option Addr) (m cap : Nat) (w : World) (hc : w.cell? ⟨p, 0, none⟩ = some (.int .i64 (n : Int))) (h0 : 0 ≤ x) (h1 : x < n) (hm : m ≠ 32) :
    Calls Try.prog 10 #[.pointer (some ⟨p, 0, none⟩), .int .i64 x, .slice A m cap] w fun e w' => e = .returned (.int .i64 1) ∧ w = w' := by
  have HC := Lib.hid hc
  have e1 : ((m : Int) != 32) = true := by simp; omega
  clear hc hm
  go_enter Try.func10, Try.ntmps10
  go_wp2_with (go_at_call 21; refine (has_yes p n _ _ HC.out h0 h1).mono ?_; rintro e w' ⟨rfl, rfl⟩)
  go_ret
  exact ⟨rfl, rfl⟩

/-- The block that Read lays, once it holds the block's bytes. -/
theorem wpList_store_new {P : Program} {ops : Array Oper} {rest : List Oper} {d : Option Tmp} {ty tt : TypeId} {ps : String} {af : Array Edge} {a : Act} {w : World} {Q : Exit → Act → World → Prop} {x y : Tmp} {c cells : Array Value}
    (hx : a.eval (.tmp x) = .pointer (some ⟨w.heap.size, 0, none⟩)) (hy : a.eval (.tmp y) = .agg cells)
    (hi : (P.info? ty).map (·.size) = some cells.size) (hc : c.size = cells.size) (h1 : cells.all (·.oneCell') = true)
    (h : wpList P ops Q rest (a.put d undef) (w.alloc (.cells cells ty))) : wpList P ops Q ({ dst := d, op := .store ty (.tmp x) (.tmp y), type := tt, pos := ps, after := af, guard := none } :: rest) a (w.alloc (.cells c ty)) := by
  refine wpList_plain rfl fun K hK => ?_
  unfold Oper.wp execOp
  simp only [hx, hy, Sem.run_bind, Sem.run_pure, Result.andThen_ok, run_storeAt_new w ty c cells hi hc h1]
  exact hK _ _ h
theorem all_bytesV (l : List UInt8) : (bytesV l).toArray.all (·.oneCell') = true := all_oneCell_toArray oneCell_bytesV

theorem rd_some {F S : Int → Option (List UInt8)} {x : Int} (h : (S x).isSome = true) : (S x).getD zero32 = rd F S x := by
  unfold rd
  cases hs : S x with
  | none => rw [hs] at h; cases h
  | some l => rfl
theorem rd_none {F S : Int → Option (List UInt8)} {x : Int} (h : (S x).isSome = false) : (F x).getD zero32 = rd F S x := by
  unfold rd
  cases hs : S x with
  | none => rfl
  | some l => rw [hs] at h; cases h

set_option maxHeartbeats 1000000 in
theorem read_in (p bf bs : Nat) (v : Value) (n kf : Nat) (F S : Int → Option (List UInt8)) (cs : List CallM) (x : Int) (w : World) (h : DiskIs w p bf bs v n kf F S cs) (h0 : 0 ≤ x) (h1 : x < n) (hn : n ≤ 65536)
    (hF : ∀ l, F x = some l → l.length = 32) (hS : ∀ l, S x = some l → l.length = 32) :
    Calls Try.prog 18 #[.pointer (some ⟨p, 0, none⟩), .int .i64 x] w (ReadIs w (rd F S x)) := by
  have HC := Lib.hid h.cell0
  have c2 := h.cell2
  have c1 := h.cell1
  have c1a : (w.alloc (.cells (bytesV ((S x).getD zero32)).toArray 56)).cell? ⟨p, 1, none⟩ = some (.map (some bf)) := (World.cell?_alloc_lt w _ _ (World.block_lt_of_cell? w _ c1)).trans c1
  have hx : (Lit.int .i64 x).wf = true := by go_wf
  have L2 := h.2.2.1.look_ok (t := 50) Try.underlying3 Try.underlying50 zeroBlock hx
  have L1 : ∀ o, (Instr.lookup 50 (.map (some bf)) (.int .i64 x) false).run Try.prog (w.alloc o) = .ok (blk ((F x).getD zero32)) (w.alloc o) := fun o => (h.2.1.same (w' := w.alloc o) (Below.heap_alloc _ _ _ h.2.1.lt)).look Try.underlying3 Try.underlying50 zeroBlock hx
  have l2 : ((S x).getD zero32).length = 32 := by cases hs : S x with | none => rfl | some l => exact hS l hs
  have l1 : ((F x).getD zero32).length = 32 := by cases hs : F x with | none => rfl | some l => exact hF l hs
  unfold blk at L1 L2
  have s2 : (Try.prog.info? 56).map (·.size) = some (bytesV ((S x).getD zero32)).toArray.size := by rw [size_block]; simp [length_bytesV, l2]
  have s1 : (Try.prog.info? 56).map (·.size) = some (bytesV ((F x).getD zero32)).toArray.size := by rw [size_block]; simp [length_bytesV, l1]
  have t2 : 32 = (bytesV ((S x).getD zero32)).toArray.size := by simp [length_bytesV, l2]
  have t1 : (bytesV ((S x).getD zero32)).toArray.size = (bytesV ((F x).getD zero32)).toArray.size := by simp [length_bytesV, l1, l2]
  have S2 := Lib.hid s2
  have S1 := Lib.hid s1
  have T2 := Lib.hid t2
  have T1 := Lib.hid t1
  cases hb : (S x).isSome with
  | true =>
    have HR := Lib.hid (rd_some (F := F) hb)
    rw [hb] at L2
    clear h hF hS hb l1 l2 L1 s1 s2 t1 t2 T1 S1 c1 c1a
    go_enter Try.func18, Try.ntmps18
    go_wp2_with (first
      | (go_at_call 21; refine (has_yes p n _ _ HC.out h0 h1).mono ?_; rintro e w' ⟨rfl, rfl⟩)
      | (refine wpList_store_new (x := 6) (y := 21) (cells := (bytesV ((S x).getD zero32)).toArray) rfl rfl S2.out T2.out (all_bytesV _) ?_))
    go_ret2
    refine ⟨w.heap.size, rfl, ?_, Nat.le_refl _, (Below.refl _ _).alloc (Nat.le_refl _) _⟩
    rw [← HR.out]
    exact heap_alloc_new w _
  | false =>
    have HR := Lib.hid (rd_none (F := F) hb)
    rw [hb] at L2
    clear h hF hS hb l1 l2 s1 s2 t1 t2
    go_enter Try.func18, Try.ntmps18
    go_wp2_with (first
      | (go_at_call 21; refine (has_yes p n _ _ HC.out h0 h1).mono ?_; rintro e w' ⟨rfl, rfl⟩)
      | (refine wpList_store_new (x := 6) (y := 21) (cells := (bytesV ((S x).getD zero32)).toArray) rfl rfl S2.out T2.out (all_bytesV _) ?_)
      | (refine wpList_store_new (x := 6) (y := 30) (cells := (bytesV ((F x).getD zero32)).toArray) rfl rfl S1.out T1.out (all_bytesV _) ?_))
    go_ret2
    refine ⟨w.heap.size, rfl, ?_, Nat.le_refl _, (Below.refl _ _).alloc (Nat.le_refl _) _⟩
    rw [← HR.out]
    exact heap_alloc_new w _
end Go.Proofs.Ytficckhhlhcogaa
