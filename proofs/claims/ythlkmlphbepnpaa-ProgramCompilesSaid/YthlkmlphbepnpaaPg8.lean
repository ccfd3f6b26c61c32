/-
  Package program's Compile: the program of commands without patterns and templates, or what is wrong. Condition: texts of at most a million bytes.
-/
import Derived.Test.YthlkmlphbepnpaaPg7
import Derived.Test.YthlkmlphbepnpaaMheads
import Derived.Deep.OwnRows
import Derived.BigQuiet
import Derived.Deep.QuietTactic
namespace Go.Proofs.Ythlkmlphbepnpaa
open Go.RowKit Go.Deep

def imAt (l : List CM) (J : Nat → Int) (i : Nat) : IM := ((l[i]?).getD ⟨0, 0, 0, ⟨#[]⟩, ⟨#[]⟩⟩, J i)
/-- The first m instructions. -/
def ims (l : List CM) (J : Nat → Int) (m : Nat) : List IM := (List.range m).map (imAt l J)
theorem ims_succ (l : List CM) (J : Nat → Int) (m : Nat) : ims l J (m + 1) = ims l J m ++ [imAt l J m] := by simp [ims, List.range_succ]
theorem ims_len (l : List CM) (J : Nat → Int) (m : Nat) : (ims l J m).length = m := by simp [ims]
theorem ims_get {l : List CM} {J : Nat → Int} {m i : Nat} (h : i < m) : (ims l J m)[i]? = some (imAt l J i) := by simp [ims, h]
theorem imAt_of {l : List CM} {J : Nat → Int} {i : Nat} {c : CM} (h : l[i]? = some c) : imAt l J i = (c, J i) := by simp [imAt, h]
theorem imV_append (a b : List IM) : imV (a ++ b) = imV a ++ imV b := by simp [imV]
/-- What Compile answers, and what it leaves. -/
def CompAns (l : List CM) (w : World) (e : Ending) (w' : World) : Prop := Below w.heap.size w w' ∧
  ((200 < l.length ∧ e = .returned (.tuple #[.slice none 0 0, .complex .f64 0 0, .int .i64 143])) ∨
   (l.length ≤ 200 ∧ ∃ i c, l[i]? = some c ∧ CB (cN l) l.length (some i) ∧ e = .returned (.tuple #[.slice none 0 0, .complex .f64 c.re c.im, .int .i64 142])) ∨
   (l.length ≤ 200 ∧ CB (cN l) l.length none ∧ ∃ i c, l[i]? = some c ∧ LB (cN l) (cT l) l.length (some i) ∧ e = .returned (.tuple #[.slice none 0 0, .complex .f64 c.re c.im, .int .i64 141])) ∨
   (l.length ≤ 200 ∧ ∃ J g, Jumps (cN l) (cT l) l.length J ∧ w.heap.size ≤ g ∧ w'.rangeAt g 0 (imV (ims l J l.length)) ∧ e = .returned (.tuple #[.slice (some ⟨g, 0, none⟩) l.length l.length, .complex .f64 0 0, .int .i64 0])))
theorem CB.lt {N : Nat → Int} {n i : Nat} (h : CB N n (some i)) : i < n := by
  cases h with
  | bad _ h1 _ _ => exact h1
  | left _ t h1 => exact ((stk_mem h1).2 i (List.mem_cons_self ..)).1
theorem LB.lt {N : Nat → Int} {T : Nat → ByteArray} {n i : Nat} (h : LB N T n (some i)) : i < n := by
  cases h with
  | twice _ k h1 => exact h1
  | gone _ _ h1 => exact h1
theorem jc_zero (n : Nat) : madeCells #[(.int .i64 0 : Value)] n = jc n fun _ => 0 := by
  apply Array.ext_getElem?
  intro i
  by_cases h : i < n
  · rw [jc_get _ h]
    simp [madeCells, h, Nat.mod_one]
  · simp [madeCells, jc, h]
theorem make_jumps (n : Nat) (h : n ≤ 200) (w : World) : (Instr.makeSlice 38 (.int .i64 (n : Int)) (.int .i64 (n : Int))).run Try.prog w = .ok (.slice (some ⟨w.heap.size, 0, none⟩) n n) (w.alloc (.cells (jc n fun _ => 0) 3)) := by
  rw [← jc_zero]
  exact run_make_row' 38 3 (.int .i64 0) 8 Try.underlying38 info_int rfl .i64 .i64 n (by omega) (by omega) w
theorem make_ins (n : Nat) (h : n ≤ 200) (w : World) : ∃ C : Array Value, C.size = n * 43 ∧ (Instr.makeSlice 27 (.int .i64 (n : Int)) (.int .i64 (n : Int))).run Try.prog w = .ok (.slice (some ⟨w.heap.size, 0, none⟩) n n) (w.alloc (.cells C 53)) := by
  obtain ⟨i, hi, hz, hs, hb⟩ := info_parts info_ins
  have hr := run_make (P := Try.prog) w 27 53 i _ Try.underlying27 hi hz .i64 .i64 n n (by omega) (Int.le_refl _) (by rw [hb]; omega) (by omega)
  simp only [Int.toNat_natCast, hs] at hr
  exact ⟨_, by rw [size_madeCells], hr⟩
theorem build_ins (c : CM) (j : Int) : Try.prog.built 53 [(0, c.v), (1, .int .i64 j)] = some (IM.cells (c, j)).toArray := by kernel_rfl
theorem setCells_obj {g : Nat} {t : TypeId} : ∀ (vs : List Value) (o : Nat) (w : World) (cur : Array Value), w.heap[g]? = some (.cells cur t (0, 0)) → ∃ cur', (w.setCells g o vs).heap[g]? = some (.cells cur' t (0, 0)) ∧ cur'.size = cur.size
  | [], _, _, cur, h => ⟨cur, h, rfl⟩
  | v :: r, o, w, cur, h => by
    obtain ⟨cur', h1, h2⟩ := setCells_obj r (o + 1) (w.setCell ⟨g, o, none⟩ v) _ (heap_setCell_same w g o cur t v h)
    exact ⟨cur', h1, by rw [h2]; simp⟩
theorem setCells_other {g k : Nat} (hk : k ≠ g) : ∀ (vs : List Value) (o : Nat) (w : World), (w.setCells g o vs).heap[k]? = w.heap[k]?
  | [], _, _ => rfl
  | v :: r, o, w => by
    rw [World.setCells, setCells_other hk r (o + 1), heap_setCell_other w _ k v hk]
theorem setCells_size (g : Nat) : ∀ (vs : List Value) (o : Nat) (w : World), (w.setCells g o vs).heap.size = w.heap.size ∧ (w.setCells g o vs).os = w.os ∧ (w.setCells g o vs).tape = w.tape ∧ (w.setCells g o vs).output = w.output
  | [], _, _ => ⟨rfl, rfl, rfl, rfl⟩
  | v :: r, o, w => by
    have h := setCells_size g r (o + 1) (w.setCell ⟨g, o, none⟩ v)
    exact ⟨h.1.trans (by simp [World.setCell]), h.2.1, h.2.2.1, h.2.2.2⟩
/-- The program so far. -/
structure PrJ (l : List CM) (J : Nat → Int) (gj gp : Nat) (w wr : World) (m : Nat) : Prop where
  le : m ≤ l.length
  jat : JAt wr gj l.length J
  row : ∃ cur, wr.heap[gp]? = some (.cells cur 53 (0, 0)) ∧ cur.size = l.length * 43
  done : wr.rangeAt gp 0 (imV (ims l J m))
  bel : Below w.heap.size w wr
  bigp : w.heap.size ≤ gp
  ne : gj ≠ gp
theorem PrJ.stays {l : List CM} {J : Nat → Int} {gj gp : Nat} {w wr W : World} {m : Nat} (h : PrJ l J gj gp w wr m) (hb : Below wr.heap.size wr W) : PrJ l J gj gp w W m := by
  obtain ⟨cur, h1, h2⟩ := h.row
  exact ⟨h.le, h.jat.stays hb, ⟨cur, Below.obj hb h1 (lt_of_some h1), h2⟩, fun j v hv => by
    rw [World.cell?_of_block (hb.block gp (World.block_lt_of_cell? _ _ (h.done j v hv)))]
    exact h.done j v hv, h.bel.trans (hb.mono h.bel.size), h.bigp, h.ne⟩
theorem PrJ.there {l : List CM} {J : Nat → Int} {gj gp : Nat} {w wr : World} {m : Nat} (h : PrJ l J gj gp w wr m) (hm : m < l.length) : wr.there gp (m * 43) 43 := by
  obtain ⟨cur, h1, h2⟩ := h.row
  intro j hj
  have h3 : (m + 1) * 43 ≤ l.length * 43 := Nat.mul_le_mul_right _ hm
  refine ⟨?_, frozen_of_row wr gp _ _ _ h1⟩
  rw [obj_cell h1, Array.getElem?_eq_getElem (by rw [h2]; omega)]
  rfl
theorem PrJ.put {l : List CM} {J : Nat → Int} {gj gp : Nat} {w wr : World} {m : Nat} (h : PrJ l J gj gp w wr m) {c : CM} (hc : l[m]? = some c) : PrJ l J gj gp w (wr.setCells gp (m * 43) (IM.cells (c, J m))) (m + 1) := by
  have hlt := (List.getElem?_eq_some_iff.1 hc).1
  obtain ⟨cur, h1, h2⟩ := h.row
  obtain ⟨cur', h3, h4⟩ := setCells_obj (IM.cells (c, J m)) (m * 43) wr cur h1
  have hs := setCells_size gp (IM.cells (c, J m)) (m * 43) wr
  refine ⟨hlt, (setCells_other h.ne _ _ _).trans h.jat, ⟨cur', h3, h4.trans h2⟩, ?_, ⟨hs.2.1.trans h.bel.os, hs.2.2.1.trans h.bel.tape, hs.2.2.2.trans h.bel.output, by rw [hs.1]; exact h.bel.size, fun k hk => ?_⟩, h.bigp, h.ne⟩
  · have hlen : (imV (ims l J m)).length = m * 43 := by rw [length_imV, ims_len]
    have ha := World.rangeAt_setCells_apart h.done gp (m * 43) (IM.cells (c, J m)) (.inr (.inl (by omega)))
    have hb := World.rangeAt_setCells_same wr gp (m * 43) (IM.cells (c, J m)) (h.there hlt)
    rw [ims_succ, imV_append, imAt_of hc]
    intro j v hv
    by_cases hj : j < m * 43
    · rw [List.getElem?_append_left (by omega)] at hv
      exact ha j v hv
    · rw [List.getElem?_append_right (by omega), hlen] at hv
      have := hb (j - m * 43) v (by simpa [imV] using hv)
      rw [show m * 43 + (j - m * 43) = 0 + j by omega] at this
      exact this
  · have := h.bigp
    rw [setCells_other (by omega)]
    exact h.bel.block k hk
end Go.Proofs.Ythlkmlphbepnpaa
