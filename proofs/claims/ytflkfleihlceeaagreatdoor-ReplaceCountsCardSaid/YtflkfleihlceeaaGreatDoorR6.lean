/-
 Package replace's iterators as they are made: closures over boxes of their own. No condition.
-/
import Derived.Test.YtflkfleihlceeaaGreatDoorR5
namespace Go.Proofs.YtflkfleihlceeaaGreatDoor
open Go.RowKit Go.Deep

set_option maxRecDepth 100000 in
set_option maxHeartbeats 1000000 in
theorem matches_made (x : NV) (s : ByteArray) (w : World) : Calls Tryz.prog 63 #[x.v, .string s] w fun e w' =>
  e = .returned (.func (.func 90) #[] #[.pointer (some ⟨w.heap.size, 0, none⟩), .pointer (some ⟨w.heap.size + 1, 0, none⟩)]) ∧
  w' = (w.alloc (.cells #[.int .i64 x.kind, .int .u64 (x.set 0), .int .u64 (x.set 1), .int .u64 (x.set 2), .int .u64 (x.set 3), .int .i64 x.lo, .int .i64 x.hi, .int .i64 x.num, .slice x.A x.n x.c] 28)).alloc (.cells #[.string s] 9) := by
 rw [NV.v_eq];go_enter Tryz.func63, Tryz.ntmps63;go_wp2_with fail;go_ret;exact ⟨rfl, rfl⟩
set_option maxRecDepth 100000 in
set_option maxHeartbeats 1000000 in
theorem chosen_made (x : NV) (s : ByteArray) (n : Int) (all : Bool) (w : World) : Calls Tryz.prog 37 #[x.v, .string s, .int .i64 n, .bool all] w fun e w' =>
  e = .returned (.func (.func 62) #[] #[.pointer (some ⟨w.heap.size, 0, none⟩), .pointer (some ⟨w.heap.size + 1, 0, none⟩), .pointer (some ⟨w.heap.size + 2, 0, none⟩), .pointer (some ⟨w.heap.size + 3, 0, none⟩)]) ∧
  w' = (((w.alloc (.cells #[.int .i64 x.kind, .int .u64 (x.set 0), .int .u64 (x.set 1), .int .u64 (x.set 2), .int .u64 (x.set 3), .int .i64 x.lo, .int .i64 x.hi, .int .i64 x.num, .slice x.A x.n x.c] 28)).alloc (.cells #[.string s] 9)).alloc (.cells #[.int .i64 n] 3)).alloc (.cells #[.bool all] 4) := by
 rw [NV.v_eq];go_enter Tryz.func37, Tryz.ntmps37;go_wp2_with fail;go_ret;exact ⟨rfl, rfl⟩
set_option maxRecDepth 100000 in
set_option maxHeartbeats 1000000 in
theorem filled_made (v : Value) (s : ByteArray) (C : Array Value) (w : World) (A : Option Addr) (n c : Nat) (hv : v = .slice A n c) : Calls Tryz.prog 40 #[v, .string s, .agg C] w fun e w' =>
  e = .returned (.func (.func 64) #[] #[.pointer (some ⟨w.heap.size, 0, none⟩), .pointer (some ⟨w.heap.size + 1, 0, none⟩), .pointer (some ⟨w.heap.size + 2, 0, none⟩)]) ∧
  w' = ((w.alloc (.cells #[v] 53)).alloc (.cells #[.string s] 9)).alloc (.cells C 34) := by
 subst hv;go_enter Tryz.func40, Tryz.ntmps40;go_wp2_with fail;go_ret;exact ⟨rfl, rfl⟩
end Go.Proofs.YtflkfleihlceeaaGreatDoor
