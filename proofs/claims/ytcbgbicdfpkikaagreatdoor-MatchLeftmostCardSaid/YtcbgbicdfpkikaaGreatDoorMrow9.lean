/-
  A node of a row in memory. No condition.
-/
import Derived.Test.YtcbgbicdfpkikaaGreatDoorK07
namespace Go.Proofs.YtcbgbicdfpkikaaGreatDoor
open Go.RowKit Go.Deep

theorem row_at {S : Nat → Prop} {w : World} {A : Option Addr} {xs : List NV} (h : RawOff S w A (nsV xs)) (h0 : xs ≠ []) : ∃ b o, A = some ⟨b, o, none⟩ ∧ b < w.heap.size ∧ ∀ (i : Nat) (x : NV), xs[i]? = some x →
    (w.cell? ⟨b, o + i * 9, none⟩ = some (.int .i64 x.kind) ∧ w.cell? ⟨b, o + i * 9 + 1, none⟩ = some (.int .u64 (x.set 0)) ∧ w.cell? ⟨b, o + i * 9 + 2, none⟩ = some (.int .u64 (x.set 1)) ∧ w.cell? ⟨b, o + i * 9 + 3, none⟩ = some (.int .u64 (x.set 2)) ∧ w.cell? ⟨b, o + i * 9 + 4, none⟩ = some (.int .u64 (x.set 3)) ∧ w.cell? ⟨b, o + i * 9 + 5, none⟩ = some (.int .i64 x.lo) ∧ w.cell? ⟨b, o + i * 9 + 6, none⟩ = some (.int .i64 x.hi) ∧ w.cell? ⟨b, o + i * 9 + 7, none⟩ = some (.int .i64 x.num) ∧ w.cell? ⟨b, o + i * 9 + 8, none⟩ = some (.slice x.A x.n x.c)) := by
  rcases h with h | ⟨b, o, e, _, hr⟩
  · cases xs with
    | nil => exact absurd rfl h0
    | cons a r => cases h
  · have hb : b < w.heap.size := by
      cases xs with
      | nil => exact absurd rfl h0
      | cons a r => exact World.block_lt_of_cell? w _ (hr 0 _ rfl)
    refine ⟨b, o, e, hb, fun i x hx => ?_⟩
    have hg : ∀ (j : Nat) (v : Value), x.cells[j]? = some v → w.cell? ⟨b, o + i * 9 + j, none⟩ = some v := fun j v hv => by
      rw [Nat.add_assoc]
      exact hr _ _ (nsV_at i x hx j v hv)
    exact ⟨hg 0 _ rfl, hg 1 _ rfl, hg 2 _ rfl, hg 3 _ rfl, hg 4 _ rfl, hg 5 _ rfl, hg 6 _ rfl, hg 7 _ rfl, hg 8 _ rfl⟩
end Go.Proofs.YtcbgbicdfpkikaaGreatDoor
