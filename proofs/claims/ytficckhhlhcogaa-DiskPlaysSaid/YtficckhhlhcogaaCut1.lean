/-
  What reduced and synced of package disk return. Conditions: the numbers are int's; the calls lie in memory as CallsAt says.
-/
import Derived.Test.YtficckhhlhcogaaWrite3
namespace Go.Proofs.Ytficckhhlhcogaa
open Go.RowKit Go.Maps

def red (n : Int) (m : Nat) : Nat := (if n < 0 then -(n + 1) else n).toNat % m
theorem red_lt (n : Int) (m : Nat) (h : 0 < m) : red n m < m := Nat.mod_lt _ h

theorem i64_bounds {n : Int} (hn : (Lit.int .i64 n).wf = true) : -9223372036854775808 ≤ n ∧ n ≤ 9223372036854775807 := by
  have h : IntKind.i64.min ≤ n ∧ n ≤ IntKind.i64.max := by simpa [Lit.wf] using hn
  exact h

theorem reduced_any (n : Int) (m : Nat) (w : World) (hn : (Lit.int .i64 n).wf = true) (hm : 0 < m) (hm2 : m ≤ 1099511627776) :
    Calls Try.prog 22 #[.int .i64 n, .int .i64 (m : Int)] w fun e w' => e = .returned (.int .i64 (red n m : Int)) ∧ w = w' := by
  obtain ⟨b1, b2⟩ := i64_bounds hn
  have hm0 : (0 : Int) < (m : Int) := by omega
  have hmz : ((m : Int) == 0) = false := by simp; omega
  by_cases h : n < 0
  · have e : (red n m : Int) = -((n + 1).tmod m) := by
      unfold red
      rw [if_pos h, Int.natCast_emod, Int.toNat_of_nonneg (by omega), ← Int.neg_tmod, Int.tmod_eq_emod_of_nonneg (by omega)]
    have E := Lib.hid e
    clear e
    go_enter Try.func22, Try.ntmps22
    go_wp2
    go_ret
    refine ⟨?_, rfl⟩
    rw [E.out]
    rfl
  · have e : (red n m : Int) = n % m := by
      unfold red
      rw [if_neg h, Int.natCast_emod, Int.toNat_of_nonneg (by omega)]
    have h' : 0 ≤ n := by omega
    have E := Lib.hid e
    clear e h
    go_enter Try.func22, Try.ntmps22
    go_wp2
    go_ret
    refine ⟨?_, rfl⟩
    rw [E.out]
    rfl

/-! ### synced -/
/-- The calls cs lie one behind the other from A on. -/
def CallsAt (w : World) (A : Option Addr) (cs : List CallM) : Prop :=
  ∀ i c, cs[i]? = some c → ∃ g o, A = some ⟨g, o, none⟩ ∧ w.rangeAt g (o + i * 34) c.cells

/-- k calls are up to the last Sync. -/
def SyncAt (cs : List CallM) (k : Nat) : Prop := k ≤ cs.length ∧ (∀ j c, k ≤ j → cs[j]? = some c → c.sync = false) ∧ (0 < k → ∃ c, cs[k - 1]? = some c ∧ c.sync = true)
def SyncedIs (w : World) (cs : List CallM) (e : Ending) (w' : World) : Prop := ∃ k : Nat, e = .returned (.int .i64 (k : Int)) ∧ SyncAt cs k ∧ w = w'

theorem synced_any (A : Option Addr) (cap : Nat) (cs : List CallM) (w : World) (h : CallsAt w A cs) (hl : cs.length ≤ 1099511627776) :
    Calls Try.prog 23 #[.slice A cs.length cap] w (SyncedIs w cs) := by
  have H := Lib.hid h
  clear h
  go_enter Try.func23, Try.ntmps23
  go_wp2
  go_loop [3] (fun t => ∃ k : Nat, t = .int .i64 (k : Int) ∧ k ≤ cs.length ∧ Hid (∀ j c, k ≤ j → cs[j]? = some c → c.sync = false)) (fun t => (intOf t).toNat)
  case atStart => exact ⟨cs.length, rfl, Nat.le_refl _, fun j c hj hc => by rw [List.getElem?_eq_none hj] at hc; cases hc⟩
  case round =>
    obtain ⟨k, rfl, hk, hs⟩ := hrel
    by_cases h0 : 0 < k
    · obtain ⟨m, rfl⟩ : ∃ m, k = m + 1 := ⟨k - 1, by omega⟩
      have hm : m < cs.length := by omega
      obtain ⟨g, o, rfl, hr⟩ := H.out m cs[m] (List.getElem?_eq_getElem hm)
      have hc : w.cell? ⟨g, o + m * 34, none⟩ = some (.bool cs[m].sync) := by simpa using hr 0 (.bool cs[m].sync) rfl
      go_wp2
      · refine ⟨⟨m, rfl, by omega, fun j c hj hc => ?_⟩, by simp [intOf]⟩
        rcases Nat.eq_or_lt_of_le hj with e | e
        · subst e
          rw [List.getElem?_eq_getElem hm] at hc
          injection hc with hc
          rw [← hc]
          simpa using (show (!cs[m].sync) = true by assumption)
        · exact hs.out j c e hc
      · go_ret
        refine ⟨m + 1, rfl, ⟨by omega, hs.out, fun _ => ⟨cs[m], by simp, ?_⟩⟩, rfl⟩
        simpa using (show (!cs[m].sync) = false by assumption)
    · obtain rfl : k = 0 := by omega
      go_wp2
      go_ret
      exact ⟨0, rfl, ⟨Nat.zero_le _, hs.out, fun h => by omega⟩, rfl⟩
end Go.Proofs.Ytficckhhlhcogaa
