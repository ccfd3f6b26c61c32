/-
  class.namedItem, and class.item of any text. Conditions: the world holds what strings.Index asks (MaxAt); a text of at most 2^31 bytes.
-/
import Derived.Test.YtbehbbmhkkidfaaCnames
namespace Go.Proofs.Ytbehbbmhkkidfaa
open Go.RowKit

def MaxAt (w : World) : Prop := ∃ m, w.cell? ⟨0, 0, none⟩ = some (.int .i64 m)
theorem MaxAt.below {w w' : World} (h : MaxAt w) (hb : Below w.heap.size w w') : MaxAt w' := by
  obtain ⟨m, h⟩ := h
  exact ⟨m, (hb.cell (block_lt_of_cell h)).trans h⟩

/-- What a text names behind the [: of an item. -/
def nmd (l : List UInt8) : (Nat → Nat) × Nat := if (Lib.cut l [58, 93]).2.2 = true ∧ isName (Lib.cut l [58, 93]).1 = true then (nameS (Lib.cut l [58, 93]).1, (Lib.cut l [58, 93]).1.length + 4) else (noS, 0)

set_option maxRecDepth 100000 in
set_option maxHeartbeats 1000000 in
theorem named_item (s : ByteArray) (hs : s.size ≤ 2147483648) (w : World) (hM : MaxAt w) : Calls Try.prog 49 #[.string s] w fun e w' => e = .returned (.tuple #[setV (nmd s.data.toList).1, .int .i64 ((nmd s.data.toList).2 : Int)]) ∧ Below w.heap.size w w' := by
  have hb0 : Below w.heap.size w (w.alloc (.cells #[.int .u64 0, .int .u64 0, .int .u64 0, .int .u64 0] 27)) := (Below.refl _ w).alloc (Nat.le_refl _) _
  obtain ⟨m, hm⟩ := hM.below hb0
  have HC := Lib.hid (Try.strings_Cut s ⟨#[58, 93]⟩ m _ (by omega) hm)
  have hlen : (Lib.cut s.data.toList [58, 93]).1.length ≤ s.size := by
    unfold Lib.cut
    split
    · simp; omega
    · simp
  obtain ⟨c, hc⟩ : ∃ c, c = Lib.cut s.data.toList [58, 93] := ⟨_, rfl⟩
  have hnm : nmd s.data.toList = if c.2.2 = true ∧ isName c.1 = true then (nameS c.1, c.1.length + 4) else (noS, 0) := by unfold nmd; rw [← hc]
  simp only at HC
  rw [← hc] at HC hlen
  rw [hnm]
  clear hc hnm hm
  obtain ⟨L, R, b⟩ := c
  dsimp only at HC hlen ⊢
  obtain ⟨N, hN⟩ : ∃ N : ByteArray, N = ⟨L.toArray⟩ := ⟨_, rfl⟩
  have hNl : N.toList = L := by rw [hN, ByteArray.toList_eq]
  have hNs : N.size = L.length := by rw [hN]; simp [ByteArray.size]
  rw [← hN] at HC
  obtain ⟨R2, hR2⟩ : ∃ R2 : ByteArray, R2 = ⟨R.toArray⟩ := ⟨_, rfl⟩
  rw [← hR2] at HC
  have HNM := Lib.hid (named2_is N)
  rw [hNl] at HNM
  obtain ⟨S, hS⟩ : ∃ S, S = nameS L := ⟨_, rfl⟩
  rw [← hS] at HNM ⊢
  obtain ⟨k, hk⟩ : ∃ k, k = isName L := ⟨_, rfl⟩
  rw [← hk] at HNM ⊢
  have HB0 := Lib.hid hb0
  have hw1 : wrap64 (2 + (N.size : Int)) = 2 + (N.size : Int) := IntWalk.wrap64_in _ (by omega)
  have hw2 : wrap64 (2 + (N.size : Int) + 2) = 2 + (N.size : Int) + 2 := IntWalk.wrap64_in _ (by omega)
  have HNS := Lib.hid hNs
  obtain ⟨r, hr⟩ : ∃ r : (Nat → Nat) × Nat, r = if b = true ∧ k = true then (S, L.length + 4) else (noS, 0) := ⟨_, rfl⟩
  rw [← hr]
  have HR := Lib.hid hr
  clear hlen hN hNl hNs hR2 hS hk hb0 hs hr
  unfold setV at HNM
  go_enter Try.func49, Try.ntmps49
  go_wp2_with fail
  go_at_call 40
  refine HC.out.mono ?_
  rintro e wz ⟨rfl, n, rfl⟩
  go_wp2_with fail
  go_at_call 55
  refine (HNM.out _).mono ?_
  rintro e w1 ⟨rfl, hw1⟩
  have hb1 : Below (w.alloc (.cells #[.int .u64 0, .int .u64 0, .int .u64 0, .int .u64 0] 27)).heap.size (w.alloc (.cells #[.int .u64 0, .int .u64 0, .int .u64 0, .int .u64 0] 27)) w1 := (below_drewNc (m := n) (Below.refl _ _)).trans hw1
  have hz := (BoxF.zero w 27).below hb1 (by simp)
  have l1 : w.heap.size < w1.heap.size := Nat.lt_of_lt_of_le (by simp) hb1.size
  have HB1 := Lib.hid (HB0.out.trans (hb1.mono (by simp)))
  have hbs := (Below.refl w1.heap.size w1).alloc (Nat.le_refl _) (.cells #[.int .u64 (S 0), .int .u64 (S 1), .int .u64 (S 2), .int .u64 (S 3)] 27)
  obtain ⟨⟨z0, z1, z2, z3⟩, g0, g1, g2, g3⟩ := hz
  have HBS := Lib.hid hbs
  clear hw1 hb1 hbs hM HC HNM
  have HFIN := Lib.hid fun (A : Nat → Nat) => below_st4 (HB1.out.trans (HBS.out.mono HB1.out.size)) (Nat.le_refl _) A
  have HFI2 := Lib.hid fun (A : Nat → Nat) => (below_st4 HB1.out (Nat.le_refl _) A).alloc (by rw [size_st4]; exact HB1.out.size) (.cells #[.int .u64 (S 0), .int .u64 (S 1), .int .u64 (S 2), .int .u64 (S 3)] 27)
  cases b with
  | false =>
    have HV := Lib.hid (show r = (noS, 0) by rw [HR.out, if_neg fun h => Bool.false_ne_true h.1])
    go_wp2_with fail
    refine bodyPost_ret (v := .tuple #[setV noS, .int .i64 0]) (by simp [results, Try.results49, go_sem, setV, noS, z0, z1, z2, z3, l1]) rfl ⟨by rw [HV.out]; rfl, ?_⟩
    exact HFI2.out noS
  | true =>
    cases k with
    | false =>
      have HV := Lib.hid (show r = (noS, 0) by rw [HR.out, if_neg fun h => Bool.false_ne_true h.2])
      go_wp2_with fail
      refine bodyPost_ret (v := .tuple #[setV noS, .int .i64 0]) (by simp [results, Try.results49, go_sem, setV, noS, z0, z1, z2, z3, l1]) rfl ⟨by rw [HV.out]; rfl, ?_⟩
      exact HFI2.out noS
    | true =>
      have HV := Lib.hid (show r = (S, L.length + 4) by rw [HR.out, if_pos ⟨rfl, rfl⟩])
      go_wp2_with fail
      refine bodyPost_ret (v := .tuple #[setV S, .int .i64 ((L.length + 4 : Nat) : Int)]) (by simp [results, Try.results49, go_sem, setV, z0, z1, z2, z3, l1, hw1, hw2, ← HNS.out]; omega) rfl ⟨by rw [HV.out], ?_⟩
      exact HFI2.out S

/-- The item that any text begins with. -/
def itm (l : List UInt8) : (Nat → Nat) × Nat := if [91, 58].isPrefixOf l = true then nmd (l.drop 2) else itmP l
set_option maxRecDepth 100000 in
set_option maxHeartbeats 1000000 in
theorem item_any (s : ByteArray) (hs : s.size ≤ 2147483648) : ItemC MaxAt s (itm s.data.toList) := by
  by_cases hp : pre ⟨#[91, 58]⟩ s = true
  · intro w hM
    have hi : itm s.data.toList = nmd (s.data.toList.drop 2) := by
      unfold itm
      rw [if_pos (by unfold pre at hp; exact hp)]
    rw [hi]
    have hb0 : Below w.heap.size w (w.alloc (.cells #[.int .u64 0, .int .u64 0, .int .u64 0, .int .u64 0] 27)) := (Below.refl _ w).alloc (Nat.le_refl _) _
    have HCP := Lib.hid (cut_prefix s ⟨#[91, 58]⟩)
    rw [hp] at HCP
    simp only [if_true] at HCP
    have HNI := Lib.hid (named_item (s.extract 2 s.size) (by simp; omega) _ (hM.below hb0))
    rw [show (s.extract 2 s.size).data.toList = s.data.toList.drop 2 from drop_of s 2] at HNI
    obtain ⟨S, hS⟩ : ∃ S, S = (nmd (s.data.toList.drop 2)).1 := ⟨_, rfl⟩
    obtain ⟨n, hn⟩ : ∃ n, n = (nmd (s.data.toList.drop 2)).2 := ⟨_, rfl⟩
    rw [← hS, ← hn] at HNI ⊢
    have HB0 := Lib.hid hb0
    clear hS hn hi hp hs hM hb0
    unfold setV at HNI ⊢
    have e2 : (⟨#[91, 58]⟩ : ByteArray).size = 2 := rfl
    rw [e2] at HCP
    clear e2
    go_enter Try.func44, Try.ntmps44
    go_wp2_with fail
    go_at_call 48
    refine (HCP.out _).mono ?_
    rintro e0 w0 ⟨rfl, rfl⟩
    go_wp2_with fail
    go_at_call 49
    refine HNI.out.mono ?_
    rintro e w1 ⟨rfl, hw1⟩
    have hz := (BoxF.zero w 27).below hw1 (by simp)
    have HB1 := Lib.hid (HB0.out.trans (hw1.mono (by simp)))
    obtain ⟨⟨z0, z1, z2, z3⟩, g0, g1, g2, g3⟩ := hz
    clear hw1
    go_wp2_with fail
    refine bodyPost_ret (v := .tuple #[setV S, .int .i64 (n : Int)]) (by simp [results, Try.results44, go_sem, setV, z0, z1, z2, z3]) rfl ⟨rfl, ?_⟩
    exact below_st4 HB1.out (Nat.le_refl _) S
  · have h := item_is MaxAt s (by simpa using hp)
    have hi : itm s.data.toList = itmP s.data.toList := by
      unfold itm
      rw [if_neg (by unfold pre at hp; exact hp)]
    rw [hi]
    exact h
end Go.Proofs.Ytbehbbmhkkidfaa
