/-
 The matches of the letter a, and what replacing makes of them. No condition.
-/
import Derived.Test.YtflkfleihlceeaaGreatDoorR18
namespace Go.Proofs.YtflkfleihlceeaaGreatDoor
open Go.RowKit Go.Deep Go.Shelf

theorem a_one {T : List UInt8} {b : Bool} {i j : Nat} : semT T b (litN 97) i j = true ↔ j = i + 1 /\ T[i]? = some 97 := by
 have h : semT T b (litN 97) = oneB T (withS noS 97 97) := by
  unfold litN;rw [semT];rfl
 rw [h];unfold oneB;cases hc : T[i]? with
 | none => simp
 | some x =>
  simp only [has_with, has_no, Bool.false_or, Bool.and_eq_true, beq_iff_eq, decide_eq_true_eq];constructor
  ·rintro ⟨h1, h2, h3⟩;refine ⟨h1, ?_⟩;have : x = 97 := UInt8.toNat_inj.1 (by show x.toNat = 97; omega);rw [this]
  ·rintro ⟨h1, h2⟩;injection h2 with h2;subst h2;exact ⟨h1, by decide, by decide⟩
theorem a_not {T : List UInt8} {b : Bool} {i : Nat} (h : T[i]? ≠ some 97) (j : Nat) : semT T b (litN 97) i j = false := by
 cases hq : semT T b (litN 97) i j with
 | false => rfl
 | true => exact absurd (a_one.1 hq).2 h
def posF : Nat -> List UInt8 -> List Nat
 | _, [] => []
 | k, x :: r => if x = 97 then k :: posF (k + 1) r else posF (k + 1) r
def spA (T : List UInt8) (p : Nat) : Sp := spM (evT T true (litN 97)) p (p + 1)
theorem spA_zero (T : List UInt8) (p : Nat) : spA T p 0 = ((p : Int), ((p + 1 : Nat) : Int)) := spM_zero (Nat.le_succ p)
theorem get_drop {T r : List UInt8} {k : Nat} {x : UInt8} (h : T.drop k = x :: r) : T[k]? = some x /\ T.drop (k + 1) = r /\ k < T.length := by
 have h1 : T[k]? = some x := by
  have := congrArg List.head? h
  rwa [List.head?_drop] at this
 refine ⟨h1, ?_, (List.getElem?_eq_some_iff.1 h1).1⟩;rw [<- List.tail_drop, h];rfl
theorem a_matL {T : List UInt8} (hT : T.length <= 1024) : ∀ (r : List UInt8) (k : Nat) (fr en : Int), T.drop k = r -> k <= T.length -> 0 <= fr -> fr <= (k : Int) -> (∀ i : Nat, fr <= (i : Int) -> i < k -> T[i]? ≠ some 97) -> en <= (k : Int) -> MatL T (litN 97) fr en ((posF k r).map (spA T))
 | [], k, fr, en, hd, hk, h0, hf, hno, he => by
  refine .done (.inl ⟨rfl, rfl, .inr (.inr (.inr fun i j hi hil => a_not (fun h => ?_) j))⟩)
  have hkl : T.length <= k := by
   have := congrArg List.length hd;simp at this;omega
  have h1 := (List.getElem?_eq_some_iff.1 h).1;exact hno i hi (by omega) h
 | x :: r, k, fr, en, hd, hk, h0, hf, hno, he => by
  obtain ⟨h1, h2, h3⟩ := get_drop hd;by_cases hx : x = 97
  ·subst hx
   have f0 : FindR T true (litN 97) fr true (spA T k) := findR_mk h0 hT hf (a_one.2 ⟨rfl, h1⟩) h3 (fun i hi hik j _ => a_not (hno i hi hik) j) (fun j hj _ => by
    cases hq : semT T true (litN 97) k j with
    | false => rfl
    | true => have := (a_one.1 hq).1; omega)
   show MatL T (litN 97) fr en (((if (97 : UInt8) = 97 then k :: posF (k + 1) r else posF (k + 1) r)).map (spA T));rw [if_pos rfl, List.map_cons];refine .hit f0 (by rw [spA_zero]; show en < ((k + 1 : Nat) : Int); omega) ?_;rw [spA_zero];have e1 : max ((k + 1 : Nat) : Int) ((k : Int) + 1) = ((k + 1 : Nat) : Int) := (by omega);show MatL T (litN 97) (max ((k + 1 : Nat) : Int) ((k : Int) + 1)) ((k + 1 : Nat) : Int) _;rw [e1];exact a_matL hT r (k + 1) _ _ h2 h3 (by omega) (Int.le_refl _) (fun i hi hik => by omega) (Int.le_refl _)
  ·show MatL T (litN 97) fr en (((if x = 97 then k :: posF (k + 1) r else posF (k + 1) r)).map (spA T));rw [if_neg hx];refine a_matL hT r (k + 1) fr en h2 h3 h0 (by omega) (fun i hi hik h => ?_) (by omega);rcases Nat.lt_or_ge i k with h4 | h4
   ·exact hno i hi h4 h
   ·obtain rfl : i = k := (by omega);rw [h1] at h;injection h with h;exact hx h
def outS (ch : Nat -> Bool) (g : List UInt8) : Nat -> List UInt8 -> List UInt8
 | _, [] => []
 | n, x :: r => if x = 97 then (if ch (n + 1) then g else [97]) ++ outS ch g (n + 1) r else x :: outS ch g n r
def posS (ch : Nat -> Bool) : Nat -> Nat -> List UInt8 -> List Nat
 | _, _, [] => []
 | n, k, x :: r => if x = 97 then (if ch (n + 1) then k :: posS ch (n + 1) (k + 1) r else posS ch (n + 1) (k + 1) r) else posS ch n (k + 1) r
theorem rep_outS {T : List UInt8} {f : Sp -> List UInt8} {ch : Nat -> Bool} {g : List UInt8} (hf : ∀ p : Nat, T[p]? = some 97 -> f (spA T p) = g) : ∀ (r : List UInt8) (n k j : Nat), T.drop j = r -> j <= T.length -> k <= j -> repF T f k ((posS ch n j r).map (spA T)) = (T.take j).drop k ++ outS ch g n r
 | [], n, k, j, hd, hj, hk => by
  have hjl : T.length <= j := by
   have := congrArg List.length hd;simp at this;omega
  show T.drop k = _;rw [List.take_of_length_le hjl];simp [outS]
 | x :: r, n, k, j, hd, hj, hk => by
  obtain ⟨h1, h2, h3⟩ := get_drop hd
  have hs : (T.take (j + 1)).drop k = (T.take j).drop k ++ [x] := by
   rw [List.take_add_one, h1, List.drop_append_of_le_length (by simp; omega)];rfl
  by_cases hx : x = 97
  ·subst hx;by_cases hc : ch (n + 1) = true
   ·simp only [posS, outS, if_pos, hc, List.map_cons, repF];rw [spA_zero, hf j h1];simp only [Int.toNat_natCast];have hz : (T.take (j + 1)).drop (j + 1) = [] := List.drop_eq_nil_of_le (by simp; omega);rw [rep_outS hf r (n + 1) (j + 1) (j + 1) h2 h3 (nlr _), hz, List.nil_append]
   ·have hc' : ch (n + 1) = false := (by simpa using hc);simp only [posS, outS, if_pos, hc', Bool.false_eq_true, if_false];rw [rep_outS hf r (n + 1) k (j + 1) h2 h3 (by omega), hs, List.append_assoc]
  ·simp only [posS, outS, if_neg hx];rw [rep_outS hf r n k (j + 1) h2 h3 (by omega), hs, List.append_assoc];rfl
theorem posS_all : ∀ (r : List UInt8) (n k : Nat), posS (fun _ => true) n k r = posF k r
 | [], _, _ => rfl
 | x :: r, n, k => by
  by_cases hx : x = 97
  ·simp only [posS, posF, if_pos hx, if_true];rw [posS_all r]
  ·simp only [posS, posF, if_neg hx];rw [posS_all r]
theorem posS_past {c : Nat} : ∀ (r : List UInt8) (n k : Nat), c <= n -> posS (fun m => decide (m = c)) n k r = []
 | [], _, _, _ => rfl
 | x :: r, n, k, h => by
  have hd : decide (n + 1 = c) = false := dqf (by omega);by_cases hx : x = 97
  ·simp only [posS, if_pos hx, hd, Bool.false_eq_true, if_false];rw [posS_past r (n + 1) (k + 1) (by omega)]
  ·simp only [posS, if_neg hx];exact posS_past r n (k + 1) h
theorem posS_one {c : Nat} : ∀ (r : List UInt8) (n k : Nat), n < c -> posS (fun m => decide (m = c)) n k r = ((posF k r).drop (c - 1 - n)).take 1
 | [], n, k, h => by simp [posS, posF]
 | x :: r, n, k, h => by
  by_cases hx : x = 97
  ·by_cases hc : n + 1 = c
   ·have hd : decide (n + 1 = c) = true := dqt hc;simp only [posS, posF, if_pos hx, hd, if_true];rw [posS_past r (n + 1) (k + 1) (by omega), show c - 1 - n = 0 by omega];rfl
   ·have hd : decide (n + 1 = c) = false := dqf hc;simp only [posS, posF, if_pos hx, hd, Bool.false_eq_true, if_false];rw [posS_one r (n + 1) (k + 1) (by omega), show c - 1 - n = (c - 1 - (n + 1)) + 1 by omega, List.drop_succ_cons]
  ·simp only [posS, posF, if_neg hx];exact posS_one r n (k + 1) h
theorem a_cho {T : List UInt8} (c : Nat) (hc : 1 <= c) : choP c false ((posF 0 T).map (spA T)) = (posS (fun m => decide (m = c)) 0 0 T).map (spA T) := by
 rw [posS_one T 0 0 (by omega)];simp [choP, List.map_drop, List.map_take]
end Go.Proofs.YtflkfleihlceeaaGreatDoor
