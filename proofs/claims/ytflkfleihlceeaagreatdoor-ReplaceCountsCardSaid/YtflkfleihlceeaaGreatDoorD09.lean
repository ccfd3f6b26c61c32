import Derived.Test.YtflkfleihlceeaaGreatDoorD04
import Derived.Lib.AppendZerosOnto
import Derived.Laws.CopyRow
/-
 append(s, make([]uint64, k)...) of a row of the call's own. No condition but those named at the law.
-/
namespace Go.Proofs.YtflkfleihlceeaaGreatDoor
open Go.RowKit Go.Deep Go.Sort
abbrev Z64 : Value := .int .u64 0
theorem zeros_list (k : Nat) : (Builtin.zeroCells #[Z64] k).toList = List.replicate k Z64 := by
 apply List.ext_getElem?;intro i;simp only [Builtin.zeroCells, Array.toList_map, List.getElem?_map, List.getElem?_replicate];by_cases hi : i < k
 ·rw [if_pos hi];simp [hi, Nat.mod_one]
 ·rw [if_neg hi];simp [hi]
theorem zeros_size (k : Nat) : (Builtin.zeroCells #[Z64] k).size = k := by
 have := congrArg List.length (zeros_list k);simpa using this
theorem setRow_grown {w : World} {g : Nat} {cur cs : Array Value} {t : TypeId} (_hg : w.heap[g]? = some (.cells cur t (0, 0))) : w.grownBy (w.setRow g cs) (some g) := by
 refine ⟨rfl, rfl, rfl, by simp [World.setRow], fun k hk hn => ?_⟩;have hne : g ≠ k := fun e => hn (by rw [e]);simp only [World.setRow];rw [Array.getElem?_modify, if_neg hne]
theorem grown_drew (w : World) (o : Obj) (r : Option Nat) : w.grownBy (w.drew.alloc o) r := by
 have b : Below w.heap.size w (w.drew.alloc o) := ((Below.refl w.heap.size w).drew).alloc (nlr _) o;exact ⟨b.os, b.tape, b.output, b.size, fun q hq _ => b.block q hq⟩
theorem own_of_cells {w : World} {base g cap n : Nat} {e : TypeId} {cur : Array Value} {xs : List Value} (hb : base <= g) (hg : w.heap[g]? = some (.cells cur e (0, 0))) (hn : n <= cap) (hm : cap <= maxLen) (hs : cur.size = cap) (hx : cur.toList.take n = xs) (hl : xs.length = n) : w.ownsRow base e 1 (.slice (some ⟨g, 0, none⟩) n cap) n xs :=
 ⟨by rw [hl, Nat.mul_one], .inr ⟨g, cap, cur, rfl, hb, hg, hn, hm, by rw [hs, Nat.mul_one], by rw [Nat.mul_one]; exact hx⟩⟩
theorem info_u64 : (Tryz.prog.info? 23).map (fun i => (i.zero, i.size, i.bytes)) = some (some Z64, 1, 8) := by kernel_rfl
set_option maxRecDepth 100000 in
theorem run_append_zeros {w : World} {base n : Nat} {v : Value} {vs : List Value} (hown : w.ownsRow base 23 1 v n vs) (k : Nat) (h0 : 0 < k) (hn : n + k <= 1099511627776) (hbase : base <= w.heap.size) :
  ∃ v' w', (Builtin.append_ #[66, 3] 66 #[v, .int .i64 (k : Int)]).run Tryz.prog w = .ok v' w' /\ w'.ownsRow base 23 1 v' (n + k) (vs ++ List.replicate k Z64) /\ w.grownBy w' v.ownBlock /\ (∀ j, v'.ownBlock = some j -> v.ownBlock = some j \/ w.heap.size <= j) := by
 obtain ⟨i, hi, hz, hs, hby⟩ := info_parts info_u64;have hlen := hown.1;rw [Nat.mul_one] at hlen;rcases hown.2 with ⟨rfl, rfl⟩ | ⟨g, cap, cur, rfl, hb, hg, hnc, hcm, hcs, htake⟩
 ·have hvs : vs = [] := List.eq_nil_of_length_eq_zero hlen;subst hvs;have h := Lib.run_append_nil_zeros (P := Tryz.prog) w 66 3 66 23 i Z64 .i64 .i64 Tryz.underlying66 Tryz.underlying3 hi hz k h0 (by omega) (by omega) (by rw [hby]; omega);have hcap := grownCap_ge w k 0 23;have hcm := grownCap_le_maxLen w k 0 23 (by unfold maxLen; omega);generalize grownCap w k 0 23 = cap at h hcap hcm;have hc1 : Value.cells Z64 = #[Z64] := rfl;rw [hc1] at h;refine ⟨_, _, h, ?_, ?_, fun j hj => .inr ?_⟩
  ·rw [Nat.zero_add, List.nil_append];refine own_of_cells (cur := Builtin.zeroCells #[Z64] k ++ Builtin.zeroCells #[Z64] (cap - k)) hbase (heap_alloc_new w.drew _) hcap hcm ?_ ?_ (by simp)
   ·rw [Array.size_append, zeros_size, zeros_size]; omega
   ·rw [Array.toList_append, zeros_list, List.take_left' (by simp)]
  ·exact grown_drew w _ _
  ·have e : some w.heap.size = some j := hj;injection e with e;omega
 ·rw [Nat.mul_one] at hcs htake;by_cases hroom : n + k <= cap
  ·have hrun : (Builtin.append_ #[66, 3] 66 #[.slice (some ⟨g, 0, none⟩) n cap, .int .i64 (k : Int)]).run Tryz.prog w = .ok (.slice (some ⟨g, 0, none⟩) (n + k) cap) (w.setRow g (cur.toList.take n ++ List.replicate k Z64 ++ cur.toList.drop (n + k)).toArray) := by
    have hst := run_storeCells_at (P := Tryz.prog) g n 23 (List.replicate k Z64) 0 cur w hg (by simp; omega) (fun u hu => by rw [List.eq_of_mem_replicate hu]; rfl);simp only [Nat.add_zero, List.length_replicate] at hst;have hk : k ≠ 0 := (by omega);have hw : IntKind.i64.wrap (k : Int) = k := (by rw [IntKind.wrap_i64]; omega)
    have h48i : ¬ (281474976710656 < (k : Int) * (i.bytes : Int)) := by
     rw [<- Int.natCast_mul, hby];omega
    have hneg : ¬ ((k : Int) < 0) := (by omega);have hadd : (⟨g, 0, none⟩ : Addr).add n = ⟨g, n, none⟩ := (by rw [Addr.add_mid, Nat.zero_add]);have hc1 : Value.cells Z64 = #[Z64] := rfl;simp [Builtin.append_, run_underlying Tryz.underlying66, run_underlying Tryz.underlying3, sizeOf, typeInfo, zeroValue, hi, hz, hs, asInt, asIntOf, hw, hk, hneg, h48i, hroom, hadd, hc1, zeros_list, hst]
   refine ⟨_, _, hrun, ?_, setRow_grown hg, fun j hj => .inl hj⟩;refine own_of_cells hb (setRow_heap w g cur _ _ _ hg) hroom hcm ?_ ?_ (by simp [hlen])
   ·simp; omega
   ·rw [List.toList_toArray, List.take_left' (by simp; omega), htake]
  ·have hold : (Builtin.firstCells i.size n (.slice (some ⟨g, 0, none⟩) n cap)).run Tryz.prog w.drew = .ok vs.toArray w.drew := by
    have := run_loadCells_list (P := Tryz.prog) w.drew ⟨g, 0, none⟩ vs (fun j u hj => World.ownsRow.cells (w := w) hown (g := g) rfl j u hj);rw [hs];simp only [Builtin.firstCells, Nat.mul_one];rw [<- hlen];exact this
   have h := Lib.run_append_grow_zeros (P := Tryz.prog) w 66 3 66 23 i Z64 .i64 .i64 Tryz.underlying66 Tryz.underlying3 hi hz (some ⟨g, 0, none⟩) n cap vs hold k h0 (by omega) (by omega) (by omega) (by rw [hby]; omega) (by rw [hby]; exact growslice_fits (by omega) (by omega));have hcap := grownCap_ge w (n + k) cap 23;have hcm2 := grownCap_le_maxLen w (n + k) cap 23 (by unfold maxLen; omega);generalize grownCap w (n + k) cap 23 = cap2 at h hcap hcm2;have hc1 : Value.cells Z64 = #[Z64] := rfl;rw [hc1] at h;refine ⟨_, _, h, ?_, ?_, fun j hj => .inr ?_⟩
   ·refine own_of_cells (cur := vs.toArray ++ Builtin.zeroCells #[Z64] k ++ Builtin.zeroCells #[Z64] (cap2 - (n + k))) hbase (heap_alloc_new w.drew _) hcap hcm2 ?_ ?_ (by simp [hlen])
    ·rw [Array.size_append, Array.size_append, zeros_size, zeros_size]; simp; omega
    ·rw [Array.toList_append, Array.toList_append, zeros_list, List.take_left' (by simp [hlen])]
   ·exact grown_drew w _ _
   ·have e : some w.heap.size = some j := hj;injection e with e;omega
end Go.Proofs.YtflkfleihlceeaaGreatDoor
