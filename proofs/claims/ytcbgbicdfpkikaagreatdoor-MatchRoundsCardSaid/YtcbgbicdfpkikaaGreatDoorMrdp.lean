/-
  MatchRounds: the row of letters' nodes, as the law makes it. No condition.
-/
import Derived.Test.YtcbgbicdfpkikaaGreatDoorMst
import Derived.Test.YtcbgbicdfpkikaaGreatDoorMrd
namespace Go.Proofs.YtcbgbicdfpkikaaGreatDoor
open Go.RowKit Go.Deep

def bitV (c : UInt8) : NV := ⟨1, bitS c.toNat, 0, 0, 0, none, 0, 0⟩
def bitVs (p : ByteArray) (i : Nat) : List NV := (p.data.toList.take i).map bitV
theorem bitVs_next {p : ByteArray} {i : Nat} (h : i < p.size) : bitVs p (i + 1) = bitVs p i ++ [bitV p[i]] := by
  unfold bitVs
  have hl : i < p.data.toList.length := by simpa using h
  rw [List.take_succ_eq_append_getElem hl, List.map_append]
  rfl
structure RdA (W0 wr : World) (p : ByteArray) (i : Nat) (kv : Value) : Prop where
  le : i ≤ p.size
  bel : Below W0.heap.size W0 wr
  row : wr.ownsRow W0.heap.size 28 9 kv i (nsV (bitVs p i))
theorem RdA.start (W0 : World) (p : ByteArray) : RdA W0 W0 p 0 (.slice none 0 0) := ⟨Nat.zero_le _, Below.refl _ _, World.ownsRow_nil _ _ _ _⟩
theorem RdA.step {W0 wr W3 : World} {p : ByteArray} {i : Nat} {kv : Value} (h : RdA W0 wr p i kv) (hi : i < p.size) (hp : p.size ≤ 3) (hb : Below wr.heap.size wr W3) {A : Option Addr} (hat : RawAt W3 A (nsV [bitV p[i]])) :
    W3.ownsRow W0.heap.size 28 9 kv i (nsV (bitVs p i)) ∧ RawAt W3 A (nsV [bitV p[i]]) ∧ W0.heap.size ≤ W3.heap.size ∧ i + 1 ≤ 1099511627776 ∧
    ∀ v' w4, w4.ownsRow W0.heap.size 28 9 v' (i + 1) (nsV (bitVs p i) ++ nsV [bitV p[i]]) → Turned (fun j => kv.ownBlock = some j) W3 w4 → RdA W0 w4 p (i + 1) v' := by
  have hz := h.bel.size
  have hz2 := hb.size
  refine ⟨ownsRow_turned h.row (Turned.of_below (S := fun _ => False) hb) (fun _ _ h => h), hat, by omega, by omega, fun v' w4 hr hA => ⟨hi, ?_, ?_⟩⟩
  · exact (h.bel.trans (hb.mono hz)).trans (hA.below (by omega) fun k hk => (World.ownsRow.lt h.row k hk).1)
  · rw [bitVs_next hi, nsV_append]
    exact hr
theorem bitVs_all (p : ByteArray) : bitVs p p.size = p.data.toList.map bitV := by
  unfold bitVs
  rw [List.take_of_length_le (by simp)]
/-- The row of letters, in any later world. -/
theorem RdA.is {W0 wr : World} {p : ByteArray} {kv : Value} (h : RdA W0 wr p p.size kv) : ∃ A c, kv = .slice A p.size c ∧ IsP (fun _ => False) wr (roundT p.data.toList) ⟨2, noS, 0, 0, 0, A, p.size, c⟩ := by
  obtain ⟨A, c, e, hc, hr, hl⟩ := own_off (S := fun _ => False) h.row (fun k hk => hk.elim)
  rw [bitVs_all] at hr hl
  refine ⟨A, c, e, ?_⟩
  have hln : (p.data.toList.map fun c => bitN c.toNat).length = p.size := by simp
  have h2 := IsP.mk (S := fun _ => False) (w := wr) (k := 2) (T := noS) (lo := 0) (hi := 0) (num := 0) (kids := p.data.toList.map fun c => bitN c.toNat) (A := A) (c := c) (p.data.toList.map bitV) (by simp) (by rw [hln]; exact hc) hr (fun i t x h1 h2 => by
    rw [List.getElem?_map] at h1 h2
    cases hg : p.data.toList[i]? with
    | none => rw [hg] at h1; cases h1
    | some b =>
      rw [hg] at h1 h2
      simp only [Option.map_some, Option.some.injEq] at h1 h2
      subst h1 h2
      exact IsP.leaf _ _ _ _ _ _ _)
  rw [hln] at h2
  exact h2
/-- A repeat of a row, which lies in a box of its own. -/
theorem just_is {w : World} {g : Nat} {l : List UInt8} {x : NV} {cs : Array Value} {T : TypeId} (hx : IsP (fun _ => False) w (roundT l) x) (ho : w.heap[g]? = some (.cells cs T (0, 0))) (hcs : cs.toList = nsV [x]) (a : Nat) (m : Int) (hm : m = (a : Int)) : IsP (fun _ => False) w (justT a l) ⟨4, noS, m, m, 0, some ⟨g, 0, none⟩, 1, 1⟩ := by
  subst hm
  refine .mk [x] rfl (Nat.le_refl 1) (raw_of_obj ho hcs) fun i t' x' h1 h2 => ?_
  match i, h1, h2 with
  | 0, h1, h2 =>
    simp at h1 h2
    subst h1 h2
    exact hx
  | n + 1, h1, h2 => simp at h1
theorem twice_is {w : World} {g : Nat} {l : List UInt8} {a c : Nat} {x y : NV} {cs : Array Value} {T : TypeId} (hx : IsP (fun _ => False) w (justT a l) x) (hy : IsP (fun _ => False) w (justT c l) y) (ho : w.heap[g]? = some (.cells cs T (0, 0))) (hcs : cs.toList = nsV [x, y]) : IsP (fun _ => False) w (bothT a c l) ⟨2, noS, 0, 0, 0, some ⟨g, 0, none⟩, 2, 2⟩ := by
  refine .mk [x, y] rfl (Nat.le_refl 2) (raw_of_obj ho hcs) fun i t' x' h1 h2 => ?_
  match i, h1, h2 with
  | 0, h1, h2 =>
    simp at h1 h2
    subst h1 h2
    exact hx
  | 1, h1, h2 =>
    simp at h1 h2
    subst h1 h2
    exact hy
  | n + 2, h1, h2 => simp at h1
/-- What a byte's place in a set comes to. -/
theorem bit_place {v : Nat} (hv : v < 256) : ((v : Int).tdiv 64 = ((v / 64 : Nat) : Int)) ∧ ((v : Int).tmod 64 = ((v % 64 : Nat) : Int)) ∧ v / 64 < 4 ∧ v % 64 < 64 := by
  refine ⟨?_, ?_, by omega, Nat.mod_lt _ (by decide)⟩
  · rw [show ((v / 64 : Nat) : Int) = (v : Int) / 64 by omega, Int.tdiv_eq_ediv_of_nonneg (by omega)]
  · rw [show ((v % 64 : Nat) : Int) = (v : Int) % 64 by omega, Int.tmod_eq_emod_of_nonneg (by omega)]
theorem set_bit {v q r c : Nat} {T : Nat → Nat} (hc : c = v) (hq : q = c / 64) (hr : r = c % 64) (hT : T = bitS v) (hv : v < 256 := by exact UInt8.toNat_lt _) : ([Value.int .u64 0, .int .u64 0, .int .u64 0, .int .u64 0].set q (.int .u64 (IntKind.u64.wrap (2 ^ r)))).toArray = #[.int .u64 (T 0), .int .u64 (T 1), .int .u64 (T 2), .int .u64 (T 3)] := by
  subst hc hT
  have hr64 : r < 64 := by rw [hr]; exact Nat.mod_lt _ (by decide)
  rw [shl_word r hr64]
  unfold bitS
  rw [← hq, ← hr]
  have hq4 : q < 4 := by omega
  clear hq hr hv
  rcases (show q = 0 ∨ q = 1 ∨ q = 2 ∨ q = 3 by omega) with rfl | rfl | rfl | rfl <;> simp
end Go.Proofs.YtcbgbicdfpkikaaGreatDoor
