/-
  The law's 'strange': is a record one that nobody wrote at its place? Condition: both lists lie in memory.
-/
import Derived.Test.YtpfdlcogldbocaaLink
namespace Go.Proofs.Ytpfdlcogldbocaa
open Go.RowKit Go.Deep Go.Maps

def StrAns (l all : List (List UInt8)) (w : World) (e : Ending) (w' : World) : Prop := ∃ b : Bool, e = .returned (.bool b) ∧ (b = true ↔ Strange l all) ∧ ∃ N, w' = w.drewN N

set_option maxRecDepth 100000 in
set_option maxHeartbeats 2000000 in
theorem strange_any (A B : Option Addr) (l all : List (List UInt8)) (c1 c2 la lb : Nat) (w : World) (hA : RowsAt w A l) (hB : RowsAt w B all) (ha : la = l.length) (hb : lb = all.length) (hm : la ≤ maxLen) (_hm2 : lb ≤ maxLen) :
    Calls Try.prog 31 #[.slice A la c1, .slice B lb c2] w (StrAns l all w) := by
  obtain ⟨T, hTI, hT⟩ := conv_text
  have HA := Lib.hid hA
  have HB := Lib.hid hB
  have HLA := Lib.hid ha
  have HLB := Lib.hid hb
  have HT := Lib.hid hT
  have HTI := Lib.hid hTI
  unfold maxLen at hm _hm2
  clear hA hB ha hb hT hTI
  go_enter Try.func31, Try.ntmps31
  go_wp2_with fail
  go_loopw [5] (fun i wr => ∃ j : Nat, i = .int .i64 (j : Int) ∧ j ≤ la ∧ Hid (∀ i', i' < j → all[i']? = l[i']?) ∧ ∃ N, wr = w.drewN N) (fun i _ => la - (intOf i).toNat)
  case atStart => exact ⟨0, rfl, Nat.zero_le _, Lib.hid (fun i' h => by omega), 0, rfl⟩
  case round =>
    obtain ⟨j, rfl, hj, HP, N, rfl⟩ := hrel
    by_cases hjl : j < la
    · obtain ⟨x, hx⟩ : ∃ x, l[j]? = some x := ⟨l[j]'(by have := HLA.out; omega), List.getElem?_eq_getElem _⟩
      by_cases hjb : j < lb
      · obtain ⟨y, hy⟩ : ∃ y, all[j]? = some y := ⟨all[j]'(by have := HLB.out; omega), List.getElem?_eq_getElem _⟩
        obtain ⟨g1, o1, B1, d1, rfl, hc1, hb1⟩ := HA.out j x hx
        obtain ⟨g2, o2, B2, d2, rfl, hc2, hb2⟩ := HB.out j y hy
        have q1 : ∀ N, (convert 39 9 (.slice B1 x.length d1)).run Try.prog (w.drewN N) = .ok (.string (T x)) (w.drewN N) := fun N => HT.out x _ B1 d1 (hb1.drewN N)
        have q2 : ∀ N, (convert 39 9 (.slice B2 y.length d2)).run Try.prog (w.drewN N) = .ok (.string (T y)) (w.drewN N) := fun N => HT.out y _ B2 d2 (hb2.drewN N)
        have h1 : ∀ N, (w.drewN N).cell? ⟨g1, o1 + j, none⟩ = some (.slice B1 x.length d1) := fun N => hc1
        have h2 : ∀ N, (w.drewN N).cell? ⟨g2, o2 + j, none⟩ = some (.slice B2 y.length d2) := fun N => hc2
        have hg : decide (lb ≤ j) = false := by simp; omega
        obtain ⟨n1, e1⟩ : ∃ n1, n1 = x.length := ⟨_, rfl⟩
        obtain ⟨n2, e2⟩ : ∃ n2, n2 = y.length := ⟨_, rfl⟩
        by_cases hxy : x = y
        · have s1 : ((T x).toList == (T y).toList) = true := by rw [hxy]; simp
          have HP2 : Hid (∀ i', i' < j + 1 → all[i']? = l[i']?) := Lib.hid fun i' h => by
            by_cases e : i' = j
            · rw [e, hx, hy, hxy]
            · exact HP.out i' (by omega)
          obtain ⟨S1, eS1⟩ : ∃ S, S = T x := ⟨_, rfl⟩
          obtain ⟨S2, eS2⟩ : ∃ S, S = T y := ⟨_, rfl⟩
          rw [← eS1] at q1 s1
          rw [← eS2] at q2 s1
          rw [← e1] at q1 h1
          rw [← e2] at q2 h2
          clear hc1 hc2 hb1 hb2 hx hy hxy e1 e2 eS1 eS2
          go_wp2_with fail
          go_quiet (fail)
          go_wp2_with fail
          go_roundw
          case rel => exact ⟨j + 1, by go_num, by omega, HP2, _, rfl⟩
          case measure => simp [intOf]; omega
        · have s1 : ((T x).toList == (T y).toList) = false := by
            have : (T x).toList ≠ (T y).toList := fun e => hxy (by rw [ByteArray.toList_eq, ByteArray.toList_eq, HTI.out, HTI.out] at e; exact e)
            simpa using this
          have hst : Strange l all := ⟨j, x, hx, fun e => hxy (by rw [hy] at e; injection e with e; exact e.symm)⟩
          have HST := Lib.hid hst
          obtain ⟨S1, eS1⟩ : ∃ S, S = T x := ⟨_, rfl⟩
          obtain ⟨S2, eS2⟩ : ∃ S, S = T y := ⟨_, rfl⟩
          rw [← eS1] at q1 s1
          rw [← eS2] at q2 s1
          rw [← e1] at q1 h1
          rw [← e2] at q2 h2
          clear hc1 hc2 hb1 hb2 hx hy hxy e1 e2 eS1 eS2 hst
          go_wp2_with fail
          go_quiet (fail)
          go_wp2_with fail
          go_ret
          exact ⟨true, rfl, ⟨fun _ => HST.out, fun _ => rfl⟩, _, (by first | rfl | exact World.drewN_drewN _ _ _)⟩
      · have hst : Strange l all := ⟨j, x, hx, fun e => by
          have := (List.getElem?_eq_some_iff.1 e).1
          have := HLB.out
          omega⟩
        have HST := Lib.hid hst
        have hg : decide (lb ≤ j) = true := by simp; omega
        clear hst hx
        go_wp2_with fail
        go_quiet (fail)
        go_wp2_with fail
        go_ret
        exact ⟨true, rfl, ⟨fun _ => HST.out, fun _ => rfl⟩, _, (by first | rfl | exact World.drewN_drewN _ _ _)⟩
    · go_wp2_with fail
      go_ret
      exact ⟨false, rfl, ⟨fun h => (by cases h), fun hs => (by obtain ⟨i, x, h1, h2⟩ := hs; exact absurd ((HP.out i (by have := (List.getElem?_eq_some_iff.1 h1).1; have := HLA.out; omega)).trans h1) h2)⟩, N, rfl⟩
end Go.Proofs.Ytpfdlcogldbocaa
