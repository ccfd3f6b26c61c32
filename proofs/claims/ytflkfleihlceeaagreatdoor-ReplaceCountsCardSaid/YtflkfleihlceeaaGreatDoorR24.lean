/-
 ReplaceCounts, the pure part. No condition.
-/
import Derived.Test.YtflkfleihlceeaaGreatDoorR22
namespace Go.Proofs.YtflkfleihlceeaaGreatDoor
open Go.RowKit Go.Deep Go.Shelf

theorem fst_low {c : UInt8} {r : List UInt8} (h1 : c ≠ 38) (h2 : c ≠ 92) : fstT (c :: r) = (-1, c, 1) := by simp [fstT, h1, h2]
theorem tpl_low : ∀ (l : List UInt8) (f : Nat) (ps : List Pc) (bs : List UInt8), (∀ c ∈ l, c ≠ 38 /\ c ≠ 92) -> l.length <= f -> tplF f ps bs l = some (withP ps (bs ++ l))
 | [], f, ps, bs, _, _ => by cases f <;> simp [tplF]
 | c :: r, 0, ps, bs, _, hf => by simp at hf
 | c :: r, f + 1, ps, bs, h, hf => by
  obtain ⟨h1, h2⟩ := h c (List.mem_cons_self ..);rw [tplF, fst_low h1 h2];simp only [Nat.one_ne_zero, if_false, if_true, List.drop_succ_cons, List.drop_zero];rw [tpl_low r f ps (bs ++ [c]) (fun d hd => h d (List.mem_cons_of_mem _ hd)) (by simp at hf; omega), List.append_assoc];rfl
theorem by_fill (s : ByteArray) (g : List UInt8) (sp : Sp) : fillF s (withP [] g) sp = g := by
 unfold withP;split
 ·rename_i h;rw [h];simp [fillF, flatB]
 ·simp [fillF, flatB, pieP, txt]
def cntA (l : List UInt8) : Nat := (posF 0 l).length
theorem posF_len : ∀ (l : List UInt8) (k : Nat), (posF k l).length = cntA l
 | [], _ => rfl
 | x :: r, k => by
  unfold cntA;by_cases hx : x = 97
  ·simp only [posF, if_pos hx, List.length_cons];rw [posF_len r, posF_len r]
  ·simp only [posF, if_neg hx];rw [posF_len r, posF_len r]
theorem cntA_cons (x : UInt8) (r : List UInt8) : cntA (x :: r) = (if x = 97 then 1 else 0) + cntA r := by
 have h := posF_len r (0 + 1);unfold cntA at *;by_cases hx : x = 97
 ·simp only [posF, if_pos hx, List.length_cons];omega
 ·simp only [posF, if_neg hx];omega
theorem cntA_push (l : List UInt8) (x : UInt8) : cntA (l ++ [x]) = cntA l + (if x = 97 then 1 else 0) := by
 induction l with
 | nil => rw [List.nil_append, cntA_cons, Nat.add_comm]
 | cons y r ih =>
  rw [List.cons_append, cntA_cons, ih, cntA_cons];omega
theorem cntA_le : ∀ l : List UInt8, cntA l <= l.length
 | [] => nlr _
 | x :: r => by
  rw [cntA_cons, List.length_cons];have := cntA_le r;split <;> omega
theorem outS_push (ch : Nat -> Bool) (g : List UInt8) (x : UInt8) : ∀ (l : List UInt8) (n : Nat), outS ch g n (l ++ [x]) = outS ch g n l ++ (if x = 97 then (if ch (n + cntA l + 1) then g else [97]) else [x])
 | [], n => by
  show outS ch g n [x] = _;by_cases hx : x = 97
  ·by_cases hc : ch (n + 1) = true <;> simp [outS, hx, cntA, posF, hc]
  ·simp [outS, hx]
 | y :: r, n => by
  rw [List.cons_append];by_cases hy : y = 97
  ·simp only [outS, if_pos hy];rw [outS_push ch g x r (n + 1), cntA_cons, if_pos hy, List.append_assoc, show n + 1 + cntA r = n + (1 + cntA r) by omega]
  ·simp only [outS, if_neg hy];rw [outS_push ch g x r n, cntA_cons, if_neg hy, Nat.zero_add];rfl
theorem outS_len (ch : Nat -> Bool) {g : List UInt8} (hg : g.length <= 9) : ∀ (l : List UInt8) (n : Nat), (outS ch g n l).length <= 9 * l.length
 | [], _ => nlr _
 | x :: r, n => by
  simp only [outS];split
  ·have := outS_len ch hg r (n + 1);rw [List.length_append, List.length_cons];split
   ·omega
   ·simp; omega
  ·have := outS_len ch hg r n;simp; omega
theorem counts_rep {T g : List UInt8} {c : Nat} {all : Bool} {w w' : World} {e : Ending} (h : RepAns (litN 97) (withP [] g) (txt T) (c : Int) all w e w') (hc : 1 <= c) (hca : all = true -> c = 1) (hT : T.length <= 60) (hg : g.length <= 9) : Below w.heap.size w w' ∧
  e = .returned (.tuple #[.string (txt (outS (if all then fun _ => true else fun m => decide (m = c)) g 0 T)), .int .i64 ((if all then cntA T else if c <= cntA T then 1 else 0 : Nat) : Int), .int .i64 0]) := by
 obtain ⟨hb, h⟩ := h;refine ⟨hb, ?_⟩;have hTT : (txt T).data.toList = T := (by simp [txt]);rw [hTT] at h;rcases h with ⟨h, _⟩ | ⟨_, h, _⟩ | ⟨_, _, ms, hm, h⟩
 ·omega
 ·rw [size_txt] at h;omega
 ·have hms := matL_det hm (a_matL (T := T) (by omega) T 0 0 (-1) rfl (Nat.zero_le _) (Int.le_refl _) (by omega) (fun i hi hik => by omega) (by omega));have h' : ((repF T (fillF (txt T) (withP [] g)) 0 (choP c all ms)).length <= 1024 /\ e = .returned (.tuple #[.string (txt (repF T (fillF (txt T) (withP [] g)) 0 (choP c all ms))), .int .i64 ((choP c all ms).length : Int), .int .i64 0])) \/ (1024 < (repF T (fillF (txt T) (withP [] g)) 0 (choP c all ms)).length /\ e = .returned (.tuple #[.string ⟨#[]⟩, .int .i64 0, .int .i64 161])) := h
  have hcho : choP c all ms = (posS (if all then fun _ => true else fun m => decide (m = c)) 0 0 T).map (spA T) := by
   cases all with
   | true =>
    obtain rfl := hca rfl;rw [hms];show (posF 0 T).map (spA T) = (posS (fun _ => true) 0 0 T).map (spA T);rw [posS_all]
   | false =>
    rw [hms];exact a_cho c hc
  have hr : repF T (fillF (txt T) (withP [] g)) 0 (choP c all ms) = outS (if all then fun _ => true else fun m => decide (m = c)) g 0 T := by
   rw [hcho, rep_outS (g := g) (fun p _ => by_fill _ g _) T 0 0 0 rfl (Nat.zero_le _) (nlr _)];rfl
  have hlen : (choP c all ms).length = (if all then cntA T else if c <= cntA T then 1 else 0) := by
   cases all with
   | true =>
    obtain rfl := hca rfl;rw [hms];show ((posF 0 T).map (spA T)).length = _;rw [List.length_map];rfl
   | false =>
    rw [hms];simp only [choP, Bool.false_eq_true, if_false, List.length_take, List.length_drop, List.length_map];have : (posF 0 T).length = cntA T := rfl;rw [this];split <;> omega
  have hol := outS_len (if all then fun _ => true else fun m => decide (m = c)) hg T 0;rw [hr, hlen] at h';rcases h' with ⟨_, h⟩ | ⟨h, _⟩
  ·exact h
  ·omega
end Go.Proofs.YtflkfleihlceeaaGreatDoor
