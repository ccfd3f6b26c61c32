/-
  Package replace's templates: what a text begins with. No condition.
-/
import Derived.Test.YtncbmdbfdjhkeaaK24
import Derived.Test.YtncbmdbfdjhkeaaPraw
import Derived.Deep.QuietTactic
import Derived.BigQuiet
import Derived.IntWalk
namespace Go.Proofs.Ytncbmdbfdjhkeaa
open Go.RowKit Go.Deep

/-- What a text of a template begins with: the group (-1: a byte), the byte, the length (0: it ends within it). -/
def fstT : List UInt8 → Int × UInt8 × Nat
  | [] => (-1, 0, 0)
  | c :: r => if c = 38 then (0, 0, 1) else if c ≠ 92 then (-1, c, 1) else match r with
    | [] => (-1, 0, 0)
    | d :: _ => if 49 ≤ d.toNat ∧ d.toNat ≤ 57 then (((d.toNat - 48 : Nat) : Int), 0, 2) else if d = 110 then (-1, 10, 2) else (-1, d, 2)
theorem fst_size (c : UInt8) (r : List UInt8) : (fstT (c :: r)).2.2 ≤ (c :: r).length := by
  by_cases h1 : c = 38
  · simp [fstT, h1]
  · by_cases h2 : c = 92
    · cases r with
      | nil => simp [fstT, h2]
      | cons d r =>
        by_cases h3 : 49 ≤ d.toNat ∧ d.toNat ≤ 57
        · simp [fstT, h2, h3]
        · by_cases h4 : d = 110
          · simp [fstT, h2, h4]
          · simp [fstT, h2, h3, h4]
    · simp [fstT, h1, h2]
theorem at_cons {s : ByteArray} {l : List UInt8} (h : s.data.toList = l) {i : Nat} {c : UInt8} (hc : l[i]? = some c) : ∀ h : i < s.size, s[i]'h = c := by
  intro hi
  subst h
  have h1 : s.data[i]? = some c := by rw [← Array.getElem?_toList]; exact hc
  have h2 : s.data[i]'hi = c := by
    rw [Array.getElem?_eq_getElem hi] at h1
    exact Option.some.inj h1
  exact h2
theorem byte_ne {c : UInt8} {n : Nat} (hn : n < 256) (h : c ≠ UInt8.ofNat n) : c.toNat ≠ n := fun e => h (by
  apply UInt8.toNat_inj.1
  rw [e, UInt8.toNat_ofNat']
  omega)
def FstA (R : Int × UInt8 × Nat) (w : World) (e : Ending) (w' : World) : Prop := e = .returned (.tuple #[.int .i64 R.1, .int .u8 (R.2.1.toNat : Int), .int .i64 (R.2.2 : Int)]) ∧ Below w.heap.size w w'
set_option maxRecDepth 100000 in
set_option maxHeartbeats 1000000 in
theorem first_is {s : ByteArray} (c : UInt8) (r : List UInt8) (hs : s.data.toList = c :: r) (w : World) : Calls Try.prog 66 #[.string s] w (FstA (fstT (c :: r)) w) := by
  have hz : s.size = r.length + 1 := by have h : s.data.toList.length = s.size := by simp
                                        rw [hs] at h; simpa using h.symm
  have h0 : (0 : Int) < (s.size : Int) := by omega
  have n0 : 0 < s.size := by omega
  have at0 := at_cons hs (i := 0) (c := c) rfl
  by_cases h38 : c = 38
  · subst h38
    have HR := Lib.hid (show fstT (38 :: r) = (0, 0, 1) from rfl)
    clear hs
    go_enter Try.func66, Try.ntmps66
    go_wp2_with fail
    go_ret3
    exact ⟨by rw [HR.out]; rfl, Below.refl _ _⟩
  have d38 : ((c.toNat : Int) == 38) = false := by rw [beq_eq_false_iff_ne]; have := byte_ne (n := 38) (by omega) h38; omega
  by_cases h92 : c ≠ 92
  · have HR := Lib.hid (show fstT (c :: r) = (-1, c, 1) by simp [fstT, h38, h92])
    have d92 : ((c.toNat : Int) == 92) = false := by rw [beq_eq_false_iff_ne]; have := byte_ne (n := 92) (by omega) h92; omega
    clear hs
    go_enter Try.func66, Try.ntmps66
    go_wp2_with fail
    go_quiet (fail)
    go_wp2_with fail
    go_ret3
    exact ⟨by rw [HR.out]; rfl, ⟨rfl, rfl, rfl, Nat.le_refl _, fun _ _ => rfl⟩⟩
  obtain rfl : c = 92 := Classical.not_not.1 h92
  cases r with
  | nil =>
    have HR := Lib.hid (show fstT [92] = (-1, 0, 0) from rfl)
    have dz : ((s.size : Int) == 1) = true := by rw [hz]; rfl
    have dzn : (s.size == 1) = true := by rw [hz]; rfl
    clear hs
    go_enter Try.func66, Try.ntmps66
    go_wp2_with fail
    go_ret3
    exact ⟨by rw [HR.out]; rfl, Below.refl _ _⟩
  | cons d r =>
    have at1 := at_cons hs (i := 1) (c := d) rfl
    simp only [List.length_cons] at hz
    have dz : ((s.size : Int) == 1) = false := by rw [beq_eq_false_iff_ne]; omega
    have dzn : (s.size == 1) = false := by rw [beq_eq_false_iff_ne]; omega
    have h1 : (1 : Int) < (s.size : Int) := by omega
    have n1 : 1 < s.size := by omega
    have rest : ¬ (49 ≤ d.toNat ∧ d.toNat ≤ 57) → ((49 : Int) ≤ (d.toNat : Int) → ¬ (d.toNat : Int) ≤ 57) → Calls Try.prog 66 #[.string s] w (FstA (fstT (92 :: d :: r)) w) := by
      intro hn hm
      have hgo : ∀ R, fstT (92 :: d :: r) = R → R = (if d = 110 then (-1, 10, 2) else (-1, d, 2)) → Calls Try.prog 66 #[.string s] w (FstA R w) := by
        intro R _ hR
        have HR := Lib.hid hR
        clear hR
        by_cases g1 : (49 : Int) ≤ (d.toNat : Int)
        · have g2 := hm g1
          by_cases g3 : d = 110
          · subst g3
            clear hs hn hm
            go_enter Try.func66, Try.ntmps66
            go_wp2_with fail
            go_ret3
            exact ⟨by first | (rw [HR.out]; rfl) | (rw [HR.out, if_neg g3]; rfl), Below.refl _ _⟩
          · have d3 : ((d.toNat : Int) == 110) = false := by rw [beq_eq_false_iff_ne]; have := byte_ne (n := 110) (by omega) g3; omega
            clear hs hn hm
            go_enter Try.func66, Try.ntmps66
            go_wp2_with fail
            go_ret3
            exact ⟨by first | (rw [HR.out]; rfl) | (rw [HR.out, if_neg g3]; rfl), Below.refl _ _⟩
        · by_cases g3 : d = 110
          · subst g3
            exact absurd (by decide) g1
          · have d3 : ((d.toNat : Int) == 110) = false := by rw [beq_eq_false_iff_ne]; have := byte_ne (n := 110) (by omega) g3; omega
            clear hs hn hm
            go_enter Try.func66, Try.ntmps66
            go_wp2_with fail
            go_ret3
            exact ⟨by first | (rw [HR.out]; rfl) | (rw [HR.out, if_neg g3]; rfl), Below.refl _ _⟩
      refine hgo _ rfl ?_
      unfold fstT
      simp [hn]
    by_cases g1 : 49 ≤ d.toNat
    · have e1 : (49 : Int) ≤ (d.toNat : Int) := by omega
      by_cases g2 : d.toNat ≤ 57
      · have e2 : (d.toNat : Int) ≤ 57 := by omega
        have HR := Lib.hid (show fstT (92 :: d :: r) = (((d.toNat - 48 : Nat) : Int), 0, 2) by simp [fstT, g1, g2])
        have hw : IntKind.u8.wrap ((d.toNat : Int) - 48) = ((d.toNat - 48 : Nat) : Int) := by rw [IntWalk.u8_in _ (by omega)]; omega
        have hw2 : ((d.toNat : Int) - 48) % 256 = ((d.toNat - 48 : Nat) : Int) := by omega
        clear hs
        go_enter Try.func66, Try.ntmps66
        go_wp2_with fail
        go_ret3
        exact ⟨by rw [HR.out]; rfl, Below.refl _ _⟩
      · exact rest (fun h => g2 h.2) (fun _ => by omega)
    · exact rest (fun h => g1 h.1) (fun h => by omega)
end Go.Proofs.Ytncbmdbfdjhkeaa
