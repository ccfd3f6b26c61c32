/-
  The walk of FletcherOne: it returns true and touches nothing that was there. Condition: the bytes lie in memory.
-/
import Derived.Test.YtnlckhdfeefjlaaCopy
import Derived.IntWalk
namespace Go.Proofs.Ytnlckhdfeefjlaa
open Go.RowKit

def byteSum (l : List UInt8) : Nat := (l.map UInt8.toNat).sum
theorem byteSum_set : ∀ (l : List UInt8) (k : Nat) (b c : UInt8), l[k]? = some b → byteSum (l.set k c) + b.toNat = byteSum l + c.toNat
  | [], k, b, c, h => by simp at h
  | x :: r, 0, b, c, h => by
    simp at h
    subst h
    simp [byteSum]; omega
  | x :: r, k + 1, b, c, h => by
    have := byteSum_set r k b c (by simpa using h)
    simp only [byteSum, List.set_cons_succ, List.map_cons, List.sum_cons] at this ⊢
    omega
theorem fwalk_sum : ∀ (l : List UInt8) (p : Nat × Nat), (fwalk p l).1 % 65521 = (p.1 + byteSum l) % 65521
  | [], p => by simp [fwalk, byteSum]
  | x :: r, p => by
    have h1 := fwalk_sum r (fst1 p x)
    have h2 : (fwalk p (x :: r)) = fwalk (fst1 p x) r := rfl
    rw [h2, h1]
    have h3 : (fst1 p x).1 = (p.1 + x.toNat) % 65521 := rfl
    have h4 : byteSum (x :: r) = x.toNat + byteSum r := by simp [byteSum]
    rw [h3, h4]
    omega
/-- One byte tells. -/
theorem more_one (l : List UInt8) (k : Nat) (b c : UInt8) (h : l[k]? = some b) (hne : c ≠ b) : more 1 (l.set k c) ≠ more 1 l := by
  intro he
  have e1 := fend_inj _ _ (fwalk_lt _ _ (fbegin_lt 1)) (fwalk_lt _ _ (fbegin_lt 1)) he
  have e2 := fwalk_sum (l.set k c) (fbegin 1)
  have e3 := fwalk_sum l (fbegin 1)
  rw [e1, e3] at e2
  have e4 := byteSum_set l k b c h
  have hb := b.toNat_lt
  have hc := c.toNat_lt
  have hn : c.toNat ≠ b.toNat := fun e => hne (UInt8.toNat_inj.1 e)
  omega
theorem xor_ne (b c : UInt8) (h : c ≠ 0) : b ^^^ c ≠ b := by
  intro e
  apply h
  have := congrArg (fun x => b ^^^ x) e
  simp only [← UInt8.xor_assoc, UInt8.xor_self, UInt8.zero_xor] at this
  exact this

theorem Own.stored {w : World} {base g n c : Nat} {l : List UInt8} (h : Own w base g n c l) (k : Nat) (x : UInt8) : Own (w.setCell ⟨g, k, none⟩ (.int .u8 x.toNat)) base g n c (l.set k x) := by
  refine ⟨?_, by rw [List.length_set, h.2]⟩
  have := (World.ownsRow.stored h.1 k (byteV x)).1
  have e : bytesV (l.set k x) = (bytesV l).set k (byteV x) := by simp [bytesV, List.map_set]
  rw [e]
  exact this

theorem sum_own {w : World} {base g n c : Nat} {l : List UInt8} (h : Own w base g n c l) (hn : n ≤ 1099511627776) :
    Calls Try.prog 8 #[.slice (some ⟨g, 0, none⟩) n c] w fun e w' => e = .returned (.int .u32 (more 1 l)) ∧ w = w' := by
  have := sum_any (some ⟨g, 0, none⟩) l c w h.bytes (by rw [h.2]; unfold maxLen; omega)
  rw [h.2] at this
  exact this

set_option maxRecDepth 100000 in
set_option maxHeartbeats 1000000 in
theorem one_pos (A : Option Addr) (l : List UInt8) (cap : Nat) (z : Int) (y : UInt8) (a : Nat) (w : World) (hb : BytesAt w A l) (h0 : l.length ≠ 0) (h1 : l.length ≤ 5000) (hy : y ≠ 0) (hz : z = (a : Int)) (hwf : (Lit.int .i64 z).wf = true) :
    Calls Try.prog 5 #[.slice A l.length cap, .int .i64 z, .int .u8 y.toNat] w fun e w' => e = .returned (.bool true) ∧ Below w.heap.size w w' := by
  have hcp := run_append_bytes (Own.start w) A l cap (hb.below ((Below.refl _ _).alloc (Nat.le_refl _) _)) (by omega) (by simp)
  simp only [Nat.zero_add, List.nil_append] at hcp
  obtain ⟨g, c, W1, hap, hown, hgrow⟩ := hcp
  have hbel : Below w.heap.size w W1 := ((Below.refl w.heap.size w).alloc (Nat.le_refl _) _).grown hgrow (by simp) (fun k hk => by injection hk with hk; omega)
  have hge := hown.ge
  obtain ⟨n, en⟩ : ∃ n, n = l.length := ⟨_, rfl⟩
  obtain ⟨k, ek⟩ : ∃ k, k = a % n := ⟨_, rfl⟩
  have hk : k < n := by rw [ek]; exact Nat.mod_lt _ (by omega)
  rw [← en] at hap hown h0 h1
  obtain ⟨x, hx⟩ : ∃ x, l[k]? = some x := ⟨l[k]'(by omega), List.getElem?_eq_getElem _⟩
  have hcell := hown.cell k x hx
  have hfr := World.ownsRow.frozenAt hown.1 k
  have hst := hown.stored k (x ^^^ y)
  rw [UInt8.toNat_xor] at hst
  obtain ⟨W2, e2⟩ : ∃ W2, W2 = W1.setCell ⟨g, k, none⟩ (.int .u8 (x.toNat ^^^ y.toNat : Nat)) := ⟨_, rfl⟩
  have hbel2 : Below w.heap.size w W2 := by rw [e2]; exact hbel.setCell hge _
  rw [← e2] at hst
  have HE2 := Lib.hid e2
  have HS1 := Lib.hid fun w2 (hb2 : Below W2.heap.size W2 w2) => sum_own (hst.below hb2 (Nat.le_refl _)) (by omega)
  have HS2 := Lib.hid fun w2 (hb2 : Below w.heap.size w w2) => sum_any A l cap w2 (hb.below hb2) (by unfold maxLen; omega)
  rw [← en] at HS2
  have hne := more_one l k x (x ^^^ y) hx (xor_ne x y hy)
  obtain ⟨s1, es1⟩ : ∃ s1, s1 = more 1 (l.set k (x ^^^ y)) := ⟨_, rfl⟩
  obtain ⟨s2, es2⟩ : ∃ s2, s2 = more 1 l := ⟨_, rfl⟩
  have hl1 := more_lt 1 (l.set k (x ^^^ y))
  have hl2 := more_lt 1 l
  rw [← es1, ← es2] at hne
  rw [← es1] at HS1 hl1
  rw [← es2] at HS2 hl2
  have hxor := xor_u8 x y
  rw [UInt8.toNat_xor] at hxor
  have hw := bounds_i64 hwf
  have hmod : (a : Int).tmod (n : Int) = (k : Int) := by rw [ek]; rfl
  have hn0 : ¬ n = 0 := h0
  have hn1 : ¬ ((n : Int) = 0) := by omega
  have hy0 : ¬ ((y.toNat : Int) = 0) := by
    intro e
    apply hy
    apply UInt8.toNat_inj.1
    show y.toNat = 0
    omega
  have hb1 : ((n : Int) == 0) = false := by simp; omega
  have hb2 : ((y.toNat : Int) == 0) = false := by simp; omega
  have HA := Lib.hid hap
  have HO := Lib.hid hown
  have hd : ((s1 : Int) != (s2 : Int)) = true := by simp; omega
  have re := run_empty
  rw [← en]
  clear e2 hap hown hst hgrow es1 es2 hx en ek hwf hbel hb
  go_enter Try.func5, Try.ntmps5
  go_wp2_with (at_builtin; refine wpList_append_eq rfl _ _ _ rfl rfl rfl HA.out ?_)
  rw [← HE2.out]
  go_at_call 7
  (with_reducible refine (alive_any _).mono ?_)
  rintro e w' ⟨rfl, hb2⟩
  have hb3 := hbel2.trans (hb2.mono hbel2.size)
  go_wp2_with fail
  go_at_call 8
  (with_reducible refine (HS1.out _ hb2).mono ?_)
  rintro e w' ⟨rfl, rfl⟩
  go_wp2_with fail
  go_at_call 8
  (with_reducible refine (HS2.out _ hb3).mono ?_)
  rintro e w' ⟨rfl, rfl⟩
  go_wp2_with fail
  go_ret
  exact ⟨rfl, hb3⟩
set_option maxRecDepth 100000 in
set_option maxHeartbeats 1000000 in
theorem one_neg (A : Option Addr) (l : List UInt8) (cap : Nat) (z : Int) (y : UInt8) (a : Nat) (w : World) (hb : BytesAt w A l) (h0 : l.length ≠ 0) (h1 : l.length ≤ 5000) (hy : y ≠ 0) (hz : z < 0 ∧ -(z + 1) = (a : Int)) (hwf : (Lit.int .i64 z).wf = true) :
    Calls Try.prog 5 #[.slice A l.length cap, .int .i64 z, .int .u8 y.toNat] w fun e w' => e = .returned (.bool true) ∧ Below w.heap.size w w' := by
  obtain ⟨hz0, hz1⟩ := hz
  have hcp := run_append_bytes (Own.start w) A l cap (hb.below ((Below.refl _ _).alloc (Nat.le_refl _) _)) (by omega) (by simp)
  simp only [Nat.zero_add, List.nil_append] at hcp
  obtain ⟨g, c, W1, hap, hown, hgrow⟩ := hcp
  have hbel : Below w.heap.size w W1 := ((Below.refl w.heap.size w).alloc (Nat.le_refl _) _).grown hgrow (by simp) (fun k hk => by injection hk with hk; omega)
  have hge := hown.ge
  obtain ⟨n, en⟩ : ∃ n, n = l.length := ⟨_, rfl⟩
  obtain ⟨k, ek⟩ : ∃ k, k = a % n := ⟨_, rfl⟩
  have hk : k < n := by rw [ek]; exact Nat.mod_lt _ (by omega)
  rw [← en] at hap hown h0 h1
  obtain ⟨x, hx⟩ : ∃ x, l[k]? = some x := ⟨l[k]'(by omega), List.getElem?_eq_getElem _⟩
  have hcell := hown.cell k x hx
  have hfr := World.ownsRow.frozenAt hown.1 k
  have hst := hown.stored k (x ^^^ y)
  rw [UInt8.toNat_xor] at hst
  obtain ⟨W2, e2⟩ : ∃ W2, W2 = W1.setCell ⟨g, k, none⟩ (.int .u8 (x.toNat ^^^ y.toNat : Nat)) := ⟨_, rfl⟩
  have hbel2 : Below w.heap.size w W2 := by rw [e2]; exact hbel.setCell hge _
  rw [← e2] at hst
  have HE2 := Lib.hid e2
  have HS1 := Lib.hid fun w2 (hb2 : Below W2.heap.size W2 w2) => sum_own (hst.below hb2 (Nat.le_refl _)) (by omega)
  have HS2 := Lib.hid fun w2 (hb2 : Below w.heap.size w w2) => sum_any A l cap w2 (hb.below hb2) (by unfold maxLen; omega)
  rw [← en] at HS2
  have hne := more_one l k x (x ^^^ y) hx (xor_ne x y hy)
  obtain ⟨s1, es1⟩ : ∃ s1, s1 = more 1 (l.set k (x ^^^ y)) := ⟨_, rfl⟩
  obtain ⟨s2, es2⟩ : ∃ s2, s2 = more 1 l := ⟨_, rfl⟩
  have hl1 := more_lt 1 (l.set k (x ^^^ y))
  have hl2 := more_lt 1 l
  rw [← es1, ← es2] at hne
  rw [← es1] at HS1 hl1
  rw [← es2] at HS2 hl2
  have hxor := xor_u8 x y
  rw [UInt8.toNat_xor] at hxor
  have hw := bounds_i64 hwf
  have hmod : (a : Int).tmod (n : Int) = (k : Int) := by rw [ek]; rfl
  have hn0 : ¬ n = 0 := h0
  have hn1 : ¬ ((n : Int) = 0) := by omega
  have hy0 : ¬ ((y.toNat : Int) = 0) := by
    intro e
    apply hy
    apply UInt8.toNat_inj.1
    show y.toNat = 0
    omega
  have hb1 : ((n : Int) == 0) = false := by simp; omega
  have hb2 : ((y.toNat : Int) == 0) = false := by simp; omega
  have HA := Lib.hid hap
  have HO := Lib.hid hown
  have hd : ((s1 : Int) != (s2 : Int)) = true := by simp; omega
  have re := run_empty
  rw [← en]
  clear e2 hap hown hst hgrow es1 es2 hx en ek hwf hbel hb
  go_enter Try.func5, Try.ntmps5
  go_wp2_with (at_builtin; refine wpList_append_eq rfl _ _ _ rfl rfl rfl HA.out ?_)
  rw [← HE2.out]
  go_at_call 7
  (with_reducible refine (alive_any _).mono ?_)
  rintro e w' ⟨rfl, hb2⟩
  have hb3 := hbel2.trans (hb2.mono hbel2.size)
  go_wp2_with fail
  go_at_call 8
  (with_reducible refine (HS1.out _ hb2).mono ?_)
  rintro e w' ⟨rfl, rfl⟩
  go_wp2_with fail
  go_at_call 8
  (with_reducible refine (HS2.out _ hb3).mono ?_)
  rintro e w' ⟨rfl, rfl⟩
  go_wp2_with fail
  go_ret
  exact ⟨rfl, hb3⟩

set_option maxHeartbeats 400000 in
theorem one_out (A : Option Addr) (l : List UInt8) (cap : Nat) (z : Int) (y : UInt8) (w : World) (hl : l.length ≤ maxLen) (h : 5000 < l.length ∨ l.length = 0 ∨ y = 0) :
    Calls Try.prog 5 #[.slice A l.length cap, .int .i64 z, .int .u8 y.toNat] w fun e w' => e = .returned (.bool true) ∧ Below w.heap.size w w' := by
  obtain ⟨n, en⟩ : ∃ n, n = l.length := ⟨_, rfl⟩
  rw [← en] at h hl ⊢
  unfold maxLen at hl
  have e3 : (decide (5000 < (n : Int)) || (n : Int) == 0 || (y.toNat : Int) == 0) = true := by
    rcases h with h | h | h
    · simp; omega
    · simp; omega
    · rw [h]; simp
  clear h en
  by_cases h1 : 5000 < n
  · clear e3
    go_enter Try.func5, Try.ntmps5
    go_wp2_with (go_at_call 7; (with_reducible refine (alive_any _).mono ?_); rintro e w' ⟨rfl, hb2⟩)
    go_ret
    exact ⟨rfl, hb2⟩
  · by_cases h2 : n = 0
    · clear e3
      go_enter Try.func5, Try.ntmps5
      go_wp2_with (go_at_call 7; (with_reducible refine (alive_any _).mono ?_); rintro e w' ⟨rfl, hb2⟩)
      go_ret
      exact ⟨rfl, hb2⟩
    · have h3 : (y.toNat : Int) = 0 := by simp at e3; omega
      clear e3
      go_enter Try.func5, Try.ntmps5
      go_wp2_with (go_at_call 7; (with_reducible refine (alive_any _).mono ?_); rintro e w' ⟨rfl, hb2⟩)
      go_ret
      exact ⟨rfl, hb2⟩

theorem one_any (A : Option Addr) (l : List UInt8) (cap : Nat) (z : Int) (y : UInt8) (w : World) (hb : BytesAt w A l) (hl : l.length ≤ maxLen) (hwf : (Lit.int .i64 z).wf = true) :
    Calls Try.prog 5 #[.slice A l.length cap, .int .i64 z, .int .u8 y.toNat] w fun e w' => e = .returned (.bool true) ∧ Below w.heap.size w w' := by
  by_cases h : 5000 < l.length ∨ l.length = 0 ∨ y = 0
  · exact one_out A l cap z y w hl h
  · have h1 : ¬ 5000 < l.length := fun e => h (.inl e)
    have h2 : ¬ l.length = 0 := fun e => h (.inr (.inl e))
    have h3 : ¬ y = 0 := fun e => h (.inr (.inr e))
    by_cases hz : 0 ≤ z
    · exact one_pos A l cap z y z.toNat w hb h2 (by omega) h3 (by omega) hwf
    · exact one_neg A l cap z y (-z - 1).toNat w hb h2 (by omega) h3 ⟨by omega, by omega⟩ hwf
end Go.Proofs.Ytnlckhdfeefjlaa
