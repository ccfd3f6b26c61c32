/-
  The program's journal in memory: its region's bytes in a row of their own; its parts, and whether bytes are all noughts. Condition: it lies in memory so.
-/
import Derived.Test.YtpfdlcogldbocaaList
import Derived.Test.YtpfdlcogldbocaaDisk
import Derived.Lib.SliceRun
import Derived.Deep.OwnRows
import Derived.Laws.CopyRow
namespace Go.Proofs.Ytpfdlcogldbocaa
open Go.RowKit Go.Deep Go.Maps

/-- The program's journal at pj: on the disk at p, from block f on k blocks, whose bytes X lie in block g, of which u are used. -/
def PJ (w : World) (pj g p f k : Nat) (X : List UInt8) (u : Nat) : Prop :=
  w.heap[pj]? = some (.cells #[.pointer (some ⟨p, 0, none⟩), .int .i64 (f : Int), .slice (some ⟨g, 0, none⟩) (32 * k) (32 * k), .int .i64 (u : Int)] 70 (0, 0)) ∧
  w.heap[g]? = some (.cells (bytesV X).toArray 5 (0, 0)) ∧ X.length = 32 * k ∧ g ≠ pj

section
variable {w : World} {pj g p f k u : Nat} {X : List UInt8}
theorem PJ.turned (h : PJ w pj g p f k X u) {w' : World} {T : Nat → Prop} (ht : Turned T w w') (h1 : ¬ T pj) (h2 : ¬ T g) : PJ w' pj g p f k X u :=
  ⟨ht.obj h.1 h1, ht.obj h.2.1 h2, h.2.2⟩
theorem PJ.below (h : PJ w pj g p f k X u) {w' : World} (hb : Below w.heap.size w w') : PJ w' pj g p f k X u := h.turned (Turned.of_below (S := fun _ => False) hb) (fun h => h) (fun h => h)
theorem PJ.lt (h : PJ w pj g p f k X u) : pj < w.heap.size ∧ g < w.heap.size := ⟨lt_of_some h.1, lt_of_some h.2.1⟩
theorem PJ.c0 (h : PJ w pj g p f k X u) : w.cell? ⟨pj, 0, none⟩ = some (.pointer (some ⟨p, 0, none⟩)) := cell_of_row _ _ 0 _ _ _ h.1
theorem PJ.c1 (h : PJ w pj g p f k X u) : w.cell? ⟨pj, 1, none⟩ = some (.int .i64 (f : Int)) := cell_of_row _ _ 1 _ _ _ h.1
theorem PJ.c2 (h : PJ w pj g p f k X u) : w.cell? ⟨pj, 2, none⟩ = some (.slice (some ⟨g, 0, none⟩) (32 * k) (32 * k)) := cell_of_row _ _ 2 _ _ _ h.1
theorem PJ.c3 (h : PJ w pj g p f k X u) : w.cell? ⟨pj, 3, none⟩ = some (.int .i64 (u : Int)) := cell_of_row _ _ 3 _ _ _ h.1
end

/-- A row of bytes, read. -/
theorem bytesAt_row {w : World} {g : Nat} {X : List UInt8} (h : w.heap[g]? = some (.cells (bytesV X).toArray 5 (0, 0))) : BytesAt w (some ⟨g, 0, none⟩) X :=
  BytesAt.of_range fun i v hv => by
    rw [Nat.zero_add, cell_of_row w g i _ _ _ h, ← hv]
    simp
theorem bytesAt_part {w : World} {g : Nat} {X : List UInt8} (h : w.heap[g]? = some (.cells (bytesV X).toArray 5 (0, 0))) (o m : Nat) : BytesAt w (some ⟨g, o, none⟩) ((X.drop o).take m) := by
  have := ((bytesAt_row h).drop o).take m
  rw [Option.map_some, Addr.add_mid, Nat.zero_add] at this
  exact this
theorem bytesAt_rest {w : World} {g : Nat} {X : List UInt8} (h : w.heap[g]? = some (.cells (bytesV X).toArray 5 (0, 0))) (o : Nat) : BytesAt w (some ⟨g, o, none⟩) (X.drop o) := by
  have := (bytesAt_row h).drop o
  rw [Option.map_some, Addr.add_mid, Nat.zero_add] at this
  exact this

/-- Bytes laid over others. -/
def putAt (X : List UInt8) (o : Nat) (l : List UInt8) : List UInt8 := X.take o ++ l ++ X.drop (o + l.length)
theorem length_putAt {X l : List UInt8} {o : Nat} (h : o + l.length ≤ X.length) : (putAt X o l).length = X.length := by
  unfold putAt
  rw [List.length_append, List.length_append, List.length_take, List.length_drop]
  omega
theorem putAt_get {X l : List UInt8} {o : Nat} (h : o + l.length ≤ X.length) (i : Nat) : (putAt X o l)[i]? = if o ≤ i ∧ i < o + l.length then l[i - o]? else X[i]? := by
  unfold putAt
  by_cases h1 : i < o
  · rw [List.append_assoc, List.getElem?_append_left (by rw [List.length_take]; omega), List.getElem?_take, if_pos h1, if_neg (by omega)]
  · by_cases h2 : i < o + l.length
    · rw [if_pos ⟨by omega, h2⟩, List.getElem?_append_left (by rw [List.length_append, List.length_take]; omega), List.getElem?_append_right (by rw [List.length_take]; omega), List.length_take]
      congr 1
      omega
    · rw [if_neg (by omega), List.getElem?_append_right (by rw [List.length_append, List.length_take]; omega), List.getElem?_drop, List.length_append, List.length_take]
      congr 1
      omega

theorem size_u8 : (Try.prog.info? 5).map (·.size) = some 1 := by kernel_rfl
theorem bytesV_putAt (X l : List UInt8) (o : Nat) : (bytesV X).toArray.toList.take o ++ bytesV l ++ (bytesV X).toArray.toList.drop (o + (bytesV l).length) = bytesV (putAt X o l) := by
  unfold putAt
  rw [bytesV_append, bytesV_append, bytesV_take, bytesV_drop, length_bytesV]
theorem heap_putAt {w : World} {g : Nat} {X : List UInt8} (hg : w.heap[g]? = some (.cells (bytesV X).toArray 5 (0, 0))) (Y : List UInt8) : (w.setRow g (bytesV Y).toArray).heap[g]? = some (.cells (bytesV Y).toArray 5 (0, 0)) := setRow_heap _ _ _ _ _ _ hg
theorem turned_setRow (w : World) (g : Nat) (C : Array Value) : Turned (fun j => j = g) w (w.setRow g C) :=
  ⟨rfl, rfl, rfl, by simp [World.setRow], fun k _ hk => setRow_other w g k C hk⟩

/-- copy, of bytes over a row's. -/
theorem run_copy_part {w : World} {g o dLen dCap : Nat} {X l : List UInt8} {A : Option Addr} {cap : Nat} (hg : w.heap[g]? = some (.cells (bytesV X).toArray 5 (0, 0))) (hb : BytesAt w A l) (h0 : 0 < l.length) (hd : l.length ≤ dLen) (hfit : o + l.length ≤ X.length) :
    (Builtin.copy_ #[39, 39] 3 #[.slice (some ⟨g, o, none⟩) dLen dCap, .slice A l.length cap]).run Try.prog w = .ok (.int .i64 (l.length : Int)) (w.setRow g (bytesV (putAt X o l)).toArray) := by
  obtain ⟨ga, oa, rfl⟩ := hb.there h0
  have h := run_copy_row (P := Try.prog) w 39 39 3 5 g o dLen dCap ⟨ga, oa, none⟩ l.length cap (bytesV X).toArray 5 (bytesV l) Try.underlying39 size_u8 hg (by rw [length_bytesV]; exact (Nat.min_eq_left hd).symm) (fun j v hv => by
    have hj := (List.getElem?_eq_some_iff.1 hv).1
    rw [length_bytesV] at hj
    obtain ⟨g2, o2, e, hc⟩ := hb j l[j] (List.getElem?_eq_getElem hj)
    injection e with e
    rw [Addr.add_mid]
    obtain ⟨rfl, rfl⟩ : ga = g2 ∧ oa = o2 := ⟨(Addr.mk.inj e).1, (Addr.mk.inj e).2.1⟩
    rw [hc, ← hv]
    simp [bytesV, List.getElem?_eq_getElem hj]) (by simp [length_bytesV]; omega) oneCell_bytesV
  rw [bytesV_putAt, length_bytesV] at h
  exact h

/-- clear, of a part of a row. -/
theorem run_clear_part {w : World} {g o n c : Nat} {X : List UInt8} (ty : TypeId) (hg : w.heap[g]? = some (.cells (bytesV X).toArray 5 (0, 0))) (hn : 0 < n) (hfit : o + n ≤ X.length) :
    (Builtin.clear_ #[39] ty #[.slice (some ⟨g, o, none⟩) n c]).run Try.prog w = .ok (.tuple #[]) (w.setRow g (bytesV (putAt X o (List.replicate n 0))).toArray) := by
  have hz : ∀ w, (zeroValue 5).run Try.prog w = .ok (.int .u8 0) w := fun w => by kernel_rfl
  have hzc : (Builtin.zeroCells (Value.int .u8 0).cells n).toList = bytesV (List.replicate n 0) := by
    rw [show (Value.int .u8 0).cells = #[.int .u8 0] from rfl]
    simp only [Builtin.zeroCells, bytesV, List.map_replicate]
    apply List.ext_getElem
    · simp
    · intro i h1 h2
      simp [Nat.mod_one, byteV]
  have hst := run_storeCells_at Try.prog g o 5 (bytesV (List.replicate n 0)) 0 (bytesV X).toArray w hg (by simp [length_bytesV]; omega) oneCell_bytesV
  rw [Nat.add_zero, bytesV_putAt] at hst
  obtain ⟨m, rfl⟩ : ∃ m, n = m + 1 := ⟨n - 1, by omega⟩
  simp [Builtin.clear_, run_underlying Try.underlying39, hz, hzc, hst]

theorem u8_slice_three {W : World} {g L a : Nat} (h2 : a + 32 ≤ L) (_hL : L ≤ maxLen) : (Instr.sliceAt 39 (.slice (some ⟨g, 0, none⟩) L L) (some (.int .i64 (a : Int))) (some (.int .i64 ((a + 32 : Nat) : Int))) (some (.int .i64 ((a + 32 : Nat) : Int)))).run Try.prog W = .ok (.slice (some ⟨g, a, none⟩) 32 32) W := by
  unfold maxLen at _hL
  obtain ⟨b, eb⟩ : ∃ b, b = a + 32 := ⟨_, rfl⟩
  rw [← eb]
  have h1 : (a : Int) ≤ (b : Int) := by omega
  have h3 : (b : Int) ≤ (L : Int) := by omega
  have h0 : (0 : Int) ≤ (a : Int) := by omega
  have h4 : b - a = 32 := by omega
  have h5 : ¬ b = a := by omega
  have h6 : a ≤ b := by omega
  have h7 : (0 : Int) ≤ (b : Int) := by omega
  clear eb h2
  go_simp

set_option maxRecDepth 100000 in
theorem block_is {w : World} {pj g p f k u : Nat} {X : List UInt8} (h : PJ w pj g p f k X u) (hk : k ≤ 65536) (n : Nat) (hn : n < k) :
    Calls Try.prog 52 #[.pointer (some ⟨pj, 0, none⟩), .int .i64 (n : Int)] w fun e w' => e = .returned (.slice (some ⟨g, 32 * n, none⟩) 32 32) ∧ w = w' := by
  have c2 := h.c2
  obtain ⟨L, eL⟩ : ∃ L, L = 32 * k := ⟨_, rfl⟩
  rw [← eL] at c2
  have hs := u8_slice_three (W := w) (g := g) (L := L) (a := 32 * n) (by omega) (by unfold maxLen; omega)
  rw [show ((32 * n : Nat) : Int) = (n : Int) * 32 by omega, show ((32 * n + 32 : Nat) : Int) = ((n : Int) + 1) * 32 by omega] at hs
  have q1 : IntKind.i64.wrap ((n : Int) * 32) = (n : Int) * 32 := IntWalk.i64_in _ (by omega)
  have q2 : IntKind.i64.wrap ((n : Int) + 1) = (n : Int) + 1 := IntWalk.i64_in _ (by omega)
  have q3 : IntKind.i64.wrap (((n : Int) + 1) * 32) = ((n : Int) + 1) * 32 := IntWalk.i64_in _ (by omega)
  clear h eL hk hn
  go_enter Try.func52, Try.ntmps52
  go_wp2_with fail
  go_ret
  exact ⟨rfl, rfl⟩

/-- Whether bytes are all 0. -/
def noughts (l : List UInt8) : Bool := l.all (fun b => b == 0)
theorem noughts_iff {l : List UInt8} : noughts l = true ↔ ∀ b ∈ l, b = 0 := by simp [noughts]
theorem noughts_not {l : List UInt8} (h : ¬ ∀ b ∈ l, b = 0) : noughts l = false := by
  cases hn : noughts l with
  | false => rfl
  | true => exact absurd (noughts_iff.1 hn) h

set_option maxRecDepth 100000 in
theorem zero_is (A : Option Addr) (l : List UInt8) (cap : Nat) (w : World) (h : BytesAt w A l) (hl : l.length ≤ 1099511627776) :
    Calls Try.prog 36 #[.slice A l.length cap] w fun e w' => e = .returned (.bool (noughts l)) ∧ w = w' := by
  have H := Lib.hid h
  obtain ⟨n, en⟩ : ∃ n, n = l.length := ⟨_, rfl⟩
  have EN := Lib.hid en
  rw [← en]
  have hn : n ≤ 1099511627776 := by omega
  clear h hl en
  go_enter Try.func36, Try.ntmps36
  go_wp2_with fail
  go_loop [7] (fun i => ∃ j : Nat, i = .int .i64 (j : Int) ∧ j ≤ n ∧ Hid (∀ b ∈ l.take j, b = 0)) (fun i => n - (intOf i).toNat)
  case atStart => exact ⟨0, rfl, Nat.zero_le _, Lib.hid (fun b hb => by simp at hb)⟩
  case round =>
    obtain ⟨j, rfl, hj, HP⟩ := hrel
    by_cases hjn : j < n
    · obtain ⟨b, hb⟩ : ∃ b, l[j]? = some b := ⟨l[j]'(by have := EN.out; omega), List.getElem?_eq_getElem _⟩
      obtain ⟨g, o, rfl, hc⟩ := H.out j b hb
      have HB := Lib.hid hb
      have hbn := b.toNat_lt
      obtain ⟨x, ex⟩ : ∃ x, x = b.toNat := ⟨_, rfl⟩
      unfold byteV at hc
      rw [← ex] at hc hbn
      have EX := Lib.hid ex
      clear hb ex
      by_cases hz : x = 0
      · have hzI : ((x : Int) == 0) = true := by simp [hz]
        have HZ := Lib.hid hz
        clear hz
        go_wp2_with fail
        go_round
        case rel => exact ⟨j + 1, by go_num, by omega, Lib.hid (fun c hc2 => by
          rw [List.take_add_one, HB.out] at hc2
          rcases List.mem_append.1 hc2 with hc2 | hc2
          · exact HP.out c hc2
          · simp at hc2
            rw [hc2]
            have h1 := EX.out
            rw [HZ.out] at h1
            exact UInt8.toNat_inj.1 (by rw [← h1]; rfl))⟩
        case measure => simp [intOf]; omega
      · have hzI : ((x : Int) == 0) = false := by simp; omega
        have HZ := Lib.hid hz
        clear hz
        go_wp2_with fail
        go_ret
        refine ⟨?_, rfl⟩
        have : ¬ ∀ b ∈ l, b = 0 := fun hh => by
          have h1 := hh b (List.mem_of_getElem? HB.out)
          have h2 := EX.out
          rw [h1] at h2
          exact HZ.out h2
        rw [noughts_not this]
        rfl
    · have hjn2 : j = l.length := by have := EN.out; omega
      have HJ := Lib.hid hjn2
      clear hjn2
      go_wp2_with fail
      go_ret
      refine ⟨?_, rfl⟩
      have h1 := HP.out
      rw [HJ.out, List.take_length] at h1
      rw [noughts_iff.2 h1]
      rfl
end Go.Proofs.Ytpfdlcogldbocaa
