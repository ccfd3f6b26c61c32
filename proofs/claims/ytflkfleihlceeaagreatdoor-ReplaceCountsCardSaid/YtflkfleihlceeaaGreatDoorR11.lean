/-
 A search has an answer for every from; so a pattern's matches are a list. No condition.
-/
import Derived.Test.YtflkfleihlceeaaGreatDoorR10
namespace Go.Proofs.YtflkfleihlceeaaGreatDoor
open Go.RowKit Go.Deep Go.Shelf

theorem least_of {P : Nat -> Prop} : ∀ n, P n -> ∃ m, P m /\ ∀ k, k < m -> ¬ P k := by
 intro n
 induction n using Nat.strongRecOn with
 | _ n ih =>
  intro h;by_cases hk : ∃ k, k < n /\ P k
  ·obtain ⟨k, hk, hp⟩ := hk;exact ih k hk hp
  ·exact ⟨n, h, fun k hkn hp => hk ⟨k, hkn, hp⟩⟩
theorem most_of {P : Nat -> Prop} (N : Nat) (hN : ∀ k, P k -> k <= N) : ∀ d n, N - n <= d -> P n -> ∃ m, P m /\ ∀ k, m < k -> ¬ P k
 | 0, n, hd, h => ⟨n, h, fun k hk hp => by have := hN k hp; omega⟩
 | d + 1, n, hd, h => by
  by_cases hk : ∃ k, n < k /\ P k
  ·obtain ⟨k, hk, hp⟩ := hk;exact most_of N hN d k (by have := hN k hp; omega) hp
  ·exact ⟨n, h, fun k hkn hp => hk ⟨k, hkn, hp⟩⟩
theorem findR_some (T : List UInt8) (b : Bool) (t : PN) (fr : Int) : ∃ ok sp, FindR T b t fr ok sp := by
 by_cases h1 : fr < 0
 ·exact ⟨false, spI 0, .inl ⟨rfl, rfl, .inl h1⟩⟩
 by_cases h2 : (T.length : Int) < fr
 ·exact ⟨false, spI 0, .inl ⟨rfl, rfl, .inr (.inl h2)⟩⟩
 by_cases h3 : 1024 < T.length
 ·exact ⟨false, spI 0, .inl ⟨rfl, rfl, .inr (.inr (.inl h3))⟩⟩
 by_cases h4 : ∃ i, fr <= ((i : Nat) : Int) /\ i <= T.length /\ ∃ j, semT T b t i j = true
 ·obtain ⟨n, hn⟩ := h4;obtain ⟨i, ⟨hi, hiN, j, hj⟩, hmin⟩ := least_of (P := fun i => fr <= ((i : Nat) : Int) /\ i <= T.length /\ ∃ j, semT T b t i j = true) n hn;have hfit := fit_T T b t;obtain ⟨z, hz, hmax⟩ := most_of (P := fun j => semT T b t i j = true) T.length (fun k hk => (hfit i k hk).2 hiN) _ j (nlr _) hj;refine ⟨true, spM (evT T b t) i z, .inr ⟨rfl, by omega, by omega, i, z, hi, ?_, hz, fun k j hk hki => ?_, fun j hzj => ?_, rfl⟩⟩
  ·exact (hfit i z hz).2 hiN
  ·cases hq : semT T b t k j with
   | false => rfl
   | true => exact absurd ⟨hk, by omega, j, hq⟩ (hmin k hki)
  ·cases hq : semT T b t i j with
   | false => rfl
   | true => exact absurd hq (hmax j hzj)
 ·refine ⟨false, spI 0, .inl ⟨rfl, rfl, .inr (.inr (.inr fun i j hi hiN => ?_))⟩⟩;cases hq : semT T b t i j with
  | false => rfl
  | true => exact absurd ⟨i, hi, hiN, j, hq⟩ h4
theorem matL_exists (T : List UInt8) (t : PN) (fr en : Int) (k : Nat) (hk : (T.length : Int) + 1 - fr <= (k : Int)) : ∃ l : List Sp, MatL T t fr en l /\ l.length <= k := matL_some T t (findR_some T true t) k fr en hk
end Go.Proofs.YtflkfleihlceeaaGreatDoor
