/-
  A disk of package disk in memory: the struct behind a pointer, its two maps and its calls; what the calls that change nothing return. Conditions: the disk lies in memory so; numbers of blocks are whole numbers.
-/
import Derived.Test.YtpfdlcogldbocaaRows
import Derived.Test.YtpfdlcogldbocaaBase
import Derived.WalkSpells
import Derived.WalkLawsBesides
import Derived.Deep.RegionHeld3
import Derived.Deep.DrawnRows
namespace Go.Proofs.Ytpfdlcogldbocaa
open Go.RowKit Go.Maps

theorem zeroBlock (w : World) : (zeroValue 81).run Try.prog w = .ok (blk zero32) w := by kernel_rfl
theorem size_block : (Try.prog.info? 81).map (·.size) = some 32 := by kernel_rfl
theorem size_call : (Try.prog.info? 86).map (·.size) = some 34 := by kernel_rfl
theorem info_call : (Try.prog.info? 86).map (fun i => (i.zero, i.size, i.bytes)) = some (some (callV ⟨false, 0, zero32⟩), 34, 48) := by kernel_rfl

/-- A disk of n blocks lies at block p: what was durable from the beginning (F, in map bf), what was written since (S, in map bs), the calls. -/
def DiskIs (w : World) (p bf bs : Nat) (v : Value) (n kf : Nat) (F S : Int → Option (List UInt8)) (cs : List CallM) : Prop :=
  w.heap[p]? = some (.cells #[.int .i64 (n : Int), .map (some bf), .map (some bs), v] 84 (0, 0)) ∧ MapIs Try.prog 3 w bf kf F ∧ MapIs Try.prog 3 w bs cs.length S ∧
    w.ownsRow 0 86 34 v cs.length (callsV cs) ∧ bf ≠ bs ∧ (∀ c ∈ cs, c.ok)

/-- The blocks that a disk lies in. -/
def foot (p bf bs : Nat) (v : Value) (k : Nat) : Prop := k = p ∨ k = bf ∨ k = bs ∨ v.ownBlock = some k

theorem DiskIs.turned {w w' : World} {p bf bs : Nat} {v : Value} {n kf : Nat} {F S : Int → Option (List UInt8)} {cs : List CallM} {T : Nat → Prop}
    (h : DiskIs w p bf bs v n kf F S cs) (ht : Turned T w w') (hn : ∀ k, foot p bf bs v k → ¬ T k) : DiskIs w' p bf bs v n kf F S cs := by
  obtain ⟨h1, h2, h3, h4, h5, h6⟩ := h
  exact ⟨ht.obj h1 (hn _ (.inl rfl)), h2.turned ht (hn _ (.inr (.inl rfl))), h3.turned ht (hn _ (.inr (.inr (.inl rfl)))), ownsRow_turned h4 ht (fun k hk => hn k (.inr (.inr (.inr hk)))), h5, h6⟩

theorem DiskIs.lt {w : World} {p bf bs : Nat} {v : Value} {n kf : Nat} {F S : Int → Option (List UInt8)} {cs : List CallM} (h : DiskIs w p bf bs v n kf F S cs) : ∀ k, foot p bf bs v k → k < w.heap.size := by
  obtain ⟨h1, h2, h3, h4, _⟩ := h
  rintro k (rfl | rfl | rfl | hk)
  · exact lt_of_some h1
  · exact h2.lt
  · exact h3.lt
  · exact (h4.lt k hk).2

section
variable {w : World} {p bf bs : Nat} {v : Value} {n kf : Nat} {F S : Int → Option (List UInt8)} {cs : List CallM}
theorem DiskIs.cell0 (h : DiskIs w p bf bs v n kf F S cs) : w.cell? ⟨p, 0, none⟩ = some (.int .i64 (n : Int)) := by rw [cell_of_row w p 0 _ _ _ h.1]; rfl
theorem DiskIs.cell1 (h : DiskIs w p bf bs v n kf F S cs) : w.cell? ⟨p, 1, none⟩ = some (.map (some bf)) := by rw [cell_of_row w p 1 _ _ _ h.1]; rfl
theorem DiskIs.cell2 (h : DiskIs w p bf bs v n kf F S cs) : w.cell? ⟨p, 2, none⟩ = some (.map (some bs)) := by rw [cell_of_row w p 2 _ _ _ h.1]; rfl
theorem DiskIs.cell3 (h : DiskIs w p bf bs v n kf F S cs) : w.cell? ⟨p, 3, none⟩ = some v := by rw [cell_of_row w p 3 _ _ _ h.1]; rfl
theorem DiskIs.shape (h : DiskIs w p bf bs v n kf F S cs) : ∃ A cap, v = .slice A cs.length cap := by
  rcases h.2.2.2.1.2 with ⟨rfl, h0⟩ | ⟨g, cap, cur, rfl, _⟩
  · exact ⟨none, 0, by rw [h0]⟩
  · exact ⟨_, _, rfl⟩
end

/-! ### has, Blocks, Calls -/
theorem has_yes (p n : Nat) (i : Int) (w : World) (hc : w.cell? ⟨p, 0, none⟩ = some (.int .i64 (n : Int))) (h0 : 0 ≤ i) (h1 : i < n) :
    Calls Try.prog 46 #[.pointer (some ⟨p, 0, none⟩), .int .i64 i] w fun e w' => e = .returned (.bool true) ∧ w = w' := by
  go_enter Try.func46, Try.ntmps46
  go_wp2
  go_ret
  exact ⟨rfl, rfl⟩
theorem has_no (p n : Nat) (i : Int) (w : World) (hc : w.cell? ⟨p, 0, none⟩ = some (.int .i64 (n : Int))) (h : i < 0 ∨ (n : Int) ≤ i) :
    Calls Try.prog 46 #[.pointer (some ⟨p, 0, none⟩), .int .i64 i] w fun e w' => e = .returned (.bool false) ∧ w = w' := by
  by_cases h0 : i < 0
  · clear h
    go_enter Try.func46, Try.ntmps46
    go_wp2
    go_ret
    exact ⟨rfl, rfl⟩
  · have h1 : (n : Int) ≤ i := by omega
    have h2 : 0 ≤ i := by omega
    have e1 : decide (i < (n : Int)) = false := by simp; omega
    clear h h0 h1
    go_enter Try.func46, Try.ntmps46
    go_wp2
    go_ret
    exact ⟨rfl, rfl⟩

theorem blocks_is (p n : Nat) (w : World) (hc : w.cell? ⟨p, 0, none⟩ = some (.int .i64 (n : Int))) :
    Calls Try.prog 33 #[.pointer (some ⟨p, 0, none⟩)] w fun e w' => e = .returned (.int .i64 (n : Int)) ∧ w = w' := by
  go_enter Try.func33, Try.ntmps33
  go_wp2
  go_ret
  exact ⟨rfl, rfl⟩
theorem calls_is (p n cap : Nat) (A : Option Addr) (w : World) (hc : w.cell? ⟨p, 3, none⟩ = some (.slice A n cap)) :
    Calls Try.prog 19 #[.pointer (some ⟨p, 0, none⟩)] w fun e w' => e = .returned (.int .i64 (n : Int)) ∧ w = w' := by
  go_enter Try.func19, Try.ntmps19
  go_wp2
  go_ret
  exact ⟨rfl, rfl⟩

/-! ### on a nil disk -/
theorem blocks_nil (w : World) : Calls Try.prog 33 #[.pointer none] w fun e w' => e = .returned (.int .i64 0) ∧ w = w' := by
  go_enter Try.func33, Try.ntmps33
  go_wp2
  go_ret
  exact ⟨rfl, rfl⟩
theorem calls_nil (w : World) : Calls Try.prog 19 #[.pointer none] w fun e w' => e = .returned (.int .i64 0) ∧ w = w' := by
  go_enter Try.func19, Try.ntmps19
  go_wp2
  go_ret
  exact ⟨rfl, rfl⟩
theorem sync_nil (w : World) : Calls Try.prog 45 #[.pointer none] w fun e w' => e = .returned (.int .i64 1) ∧ w = w' := by
  go_enter Try.func45, Try.ntmps45
  go_wp2
  go_ret
  exact ⟨rfl, rfl⟩
theorem write_nil (x b : Value) (w : World) : Calls Try.prog 16 #[.pointer none, x, b] w fun e w' => e = .returned (.int .i64 1) ∧ w = w' := by
  go_enter Try.func16, Try.ntmps16
  go_wp2
  go_ret
  exact ⟨rfl, rfl⟩
theorem read_nil (x : Value) (w : World) : Calls Try.prog 27 #[.pointer none, x] w fun e w' => e = .returned (.tuple #[.slice none 0 0, .int .i64 1]) ∧ w = w' := by
  go_enter Try.func27, Try.ntmps27
  go_wp2
  go_ret2
  exact ⟨rfl, rfl⟩
theorem cut_nil (x y z : Value) (w : World) : Calls Try.prog 18 #[.pointer none, x, y, z] w fun e w' => e = .returned (.pointer none) ∧ w = w' := by
  go_enter Try.func18, Try.ntmps18
  go_wp2
  go_ret
  exact ⟨rfl, rfl⟩

/-! ### New -/
theorem begun_any (x : Int) (m : Nat) (w : World) :
    Calls Try.prog 32 #[.int .i64 x, .map (some m)] w fun e w' => e = .returned (.pointer (some ⟨w.heap.size + 1, 0, none⟩)) ∧ (w.alloc (.map #[] 0)).alloc (.cells #[.int .i64 x, .map (some m), .map (some w.heap.size), .slice none 0 0] 84) = w' := by
  have hmm := @run_makeMap Try.prog
  go_enter Try.func32, Try.ntmps32
  go_wp2
  go_outline
  go_ret
  exact ⟨rfl, rfl⟩
end Go.Proofs.Ytpfdlcogldbocaa
