/-
  The program's joint of two ropes: a new block over both. Condition: both together are no longer than 65536 bytes.
-/
import Derived.Test.YtmcohbppeabmgaaRtree
import Derived.Deep.RegionHeld3
import Derived.BigRegion
namespace Go.Proofs.Ytmcohbppeabmgaa
open Go.RowKit Go.Deep

/-- What a call answers that makes the rope t: its address; nothing that was has turned. -/
def Made (t : RT) (w : World) (e : Ending) (w' : World) : Prop := ∃ x, e = .returned (.pointer (some ⟨x, 0, none⟩)) ∧ IsRT w' x t ∧ Below w.heap.size w w'

set_option maxRecDepth 100000 in
set_option maxHeartbeats 2000000 in
theorem joint_new {a b : RT} {w : World} {x y : Nat} (ha : IsRT w x a) (hb : IsRT w y b) (hn : a.text.length + b.text.length ≤ 65536) (ka : a.depth ≤ 65536) (kb : b.depth ≤ 65536) :
    Calls Try.prog 55 #[.pointer (some ⟨x, 0, none⟩), .pointer (some ⟨y, 0, none⟩)] w (Made (.node a b) w) := by
  have fa := List.count_le_length (a := (10 : UInt8)) (l := a.text)
  have fb := List.count_le_length (a := (10 : UInt8)) (l := b.text)
  have a3 := ha.sizeC
  have a4 := ha.feedsC
  have a5 := ha.depthC
  have b3 := hb.sizeC
  have b4 := hb.feedsC
  have b5 := hb.depthC
  obtain ⟨na, ena⟩ : ∃ k, k = a.text.length := ⟨_, rfl⟩
  obtain ⟨nb, enb⟩ : ∃ k, k = b.text.length := ⟨_, rfl⟩
  obtain ⟨ma, ema⟩ : ∃ k, k = feeds a.text := ⟨_, rfl⟩
  obtain ⟨mb, emb⟩ : ∃ k, k = feeds b.text := ⟨_, rfl⟩
  obtain ⟨da, eda⟩ : ∃ k, k = a.depth := ⟨_, rfl⟩
  obtain ⟨db, edb⟩ : ∃ k, k = b.depth := ⟨_, rfl⟩
  rw [← ena] at a3
  rw [← enb] at b3
  rw [← ema] at a4
  rw [← emb] at b4
  rw [← eda] at a5
  rw [← edb] at b5
  have hm1 : ma ≤ na := by rw [ema, ena]; exact fa
  have hm2 : mb ≤ nb := by rw [emb, enb]; exact fb
  obtain ⟨n, en⟩ : ∃ n, n = na + nb := ⟨_, rfl⟩
  obtain ⟨m, em⟩ : ∃ n, n = ma + mb := ⟨_, rfl⟩
  obtain ⟨d, ed⟩ : ∃ d, d = 1 + max da db := ⟨_, rfl⟩
  have q1 : IntKind.i64.wrap ((na : Int) + (nb : Int)) = (n : Int) := by rw [show (na : Int) + (nb : Int) = (n : Int) by omega]; exact IntWalk.i64_in _ (by omega)
  have q2 : IntKind.i64.wrap ((ma : Int) + (mb : Int)) = (m : Int) := by rw [show (ma : Int) + (mb : Int) = (m : Int) by omega]; exact IntWalk.i64_in _ (by omega)
  have q3 : IntKind.i64.wrap (1 + if da < db then (db : Int) else (da : Int)) = (d : Int) := by
    rw [show (1 + if da < db then (db : Int) else (da : Int)) = (d : Int) by split <;> omega]
    exact IntWalk.i64_in _ (by omega)
  have HK := Lib.hid fun (o : Obj) => show (w.alloc o).drew.cell? ⟨x, 3, none⟩ = some (.int .i64 (na : Int)) ∧ (w.alloc o).drew.cell? ⟨x, 4, none⟩ = some (.int .i64 (ma : Int)) ∧ (w.alloc o).drew.cell? ⟨x, 5, none⟩ = some (.int .i64 (da : Int)) ∧ (w.alloc o).drew.cell? ⟨y, 3, none⟩ = some (.int .i64 (nb : Int)) ∧ (w.alloc o).drew.cell? ⟨y, 4, none⟩ = some (.int .i64 (mb : Int)) ∧ (w.alloc o).drew.cell? ⟨y, 5, none⟩ = some (.int .i64 (db : Int)) from by
    have hbo : Below w.heap.size w (w.alloc o).drew := ((Below.refl _ w).alloc (Nat.le_refl _) o).drew
    exact ⟨(hbo.cell (p := ⟨x, 3, none⟩) ha.lt).trans a3, (hbo.cell (p := ⟨x, 4, none⟩) ha.lt).trans a4, (hbo.cell (p := ⟨x, 5, none⟩) ha.lt).trans a5, (hbo.cell (p := ⟨y, 3, none⟩) hb.lt).trans b3, (hbo.cell (p := ⟨y, 4, none⟩) hb.lt).trans b4, (hbo.cell (p := ⟨y, 5, none⟩) hb.lt).trans b5⟩
  have HA := Lib.hid ha
  have HB := Lib.hid hb
  have E1 := Lib.hid (show n = a.text.length + b.text.length by omega)
  have E2 := Lib.hid (show m = feeds a.text + feeds b.text by omega)
  have E3 := Lib.hid (show d = 1 + max a.depth b.depth by rw [ed, eda, edb])
  clear ha hb hn ka kb fa fb ena enb ema emb eda edb hm1 hm2 en em ed
  go_enter Try.func55, Try.ntmps55
  go_wp2_with fail
  go_region_held3 (fun wx => wx.cell? ⟨x, 3, none⟩ = some (.int .i64 (na : Int)) ∧ wx.cell? ⟨x, 4, none⟩ = some (.int .i64 (ma : Int)) ∧ wx.cell? ⟨x, 5, none⟩ = some (.int .i64 (da : Int)) ∧ wx.cell? ⟨y, 3, none⟩ = some (.int .i64 (nb : Int)) ∧ wx.cell? ⟨y, 4, none⟩ = some (.int .i64 (mb : Int)) ∧ wx.cell? ⟨y, 5, none⟩ = some (.int .i64 (db : Int)))
    ((first | assumption | exact ⟨a3, a4, a5, b3, b4, b5⟩ | exact HK.out _))
    ((fail))
  all_goals go_wp2_with fail
  all_goals
    go_ret
    have hbo := ((Below.refl _ w).alloc (Nat.le_refl _) (.cells #[.string ⟨#[]⟩, .pointer (some ⟨x, 0, none⟩), .pointer (some ⟨y, 0, none⟩), .int .i64 (n : Int), .int .i64 (m : Int), .int .i64 (d : Int)] 112)).drew
    refine ⟨w.heap.size, rfl, ⟨x, y, ?_, HA.out.below hbo, HB.out.below hbo⟩, hbo⟩
    unfold nodeCells
    rw [← E1.out, ← E2.out, ← E3.out]
    exact heap_alloc_new w _
end Go.Proofs.Ytmcohbppeabmgaa
