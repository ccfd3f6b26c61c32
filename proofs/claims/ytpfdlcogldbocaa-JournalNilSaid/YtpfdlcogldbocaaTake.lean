/-
  Take of package record, and of the document's answer: the record of the frame that bytes begin with, in new memory, and its length, or the error. Condition: the bytes lie in memory.
-/
import Derived.Test.YtpfdlcogldbocaaWrap
import Derived.BigQuiet
import Derived.Deep.QuietTactic
namespace Go.Proofs.Ytpfdlcogldbocaa
open Go.RowKit Go.Deep

theorem BytesAt.drop {w : World} {A : Option Addr} {b : List UInt8} (h : BytesAt w A b) (k : Nat) : BytesAt w (A.map (·.add k)) (b.drop k) := by
  intro i x hx
  rw [List.getElem?_drop] at hx
  obtain ⟨g, o, rfl, hc⟩ := h _ x hx
  exact ⟨g, o + k, by rw [Option.map_some, Addr.add_mid], by rw [Nat.add_assoc]; exact hc⟩
theorem BytesAt.take {w : World} {A : Option Addr} {b : List UInt8} (h : BytesAt w A b) (k : Nat) : BytesAt w A (b.take k) := by
  intro i x hx
  rw [List.getElem?_take] at hx
  split at hx
  · exact h i x hx
  · cases hx
theorem BytesAt.drewN {w : World} {A : Option Addr} {b : List UInt8} (h : BytesAt w A b) (k : Nat) : BytesAt (w.drewN k) A b := fun i x hx => h i x hx
theorem BytesAt.there {w : World} {A : Option Addr} {b : List UInt8} (h : BytesAt w A b) (hl : 0 < b.length) : ∃ g o, A = .some ⟨g, o, Option.none⟩ := by
  obtain ⟨g, o, e, _⟩ := h 0 _ (List.getElem?_eq_getElem hl)
  exact ⟨g, o, e⟩

def MadeBytes (l : List UInt8) (w : World) (e : Ending) (w' : World) : Prop := ∃ v, e = .returned v ∧ NewBytes l w v w'

set_option maxRecDepth 100000 in
theorem clone_any (A : Option Addr) (l : List UInt8) (cap k : Nat) (w : World) (hA : BytesAt w A l) (hk : k = l.length) (h0 : 0 < k) (hm : k ≤ 1099511627776) :
    Calls Try.prog 59 #[.slice A k cap] w (MadeBytes l w) := by
  obtain ⟨g, o, rfl⟩ := hA.there (by omega)
  have HA := Lib.hid hA
  have HK := Lib.hid hk
  have re := run_empty
  have hnil : ∀ W, (binOp .eql 39 (.slice (some ⟨g, o, none⟩) k cap) (.slice none 0 0)).run Try.prog W = .ok (.bool false) W := fun _ => rfl
  clear hA hk
  go_enter Try.func59, Try.ntmps59
  go_wp2_with ((refine wpList_append_bytes (k := k) 7 (Own.start' _ _ rfl) (HA.out.alloc _) HK.out rfl rfl ?_ (by simp) ?_))
  · omega
  intro g1 c1 W1 hown1 hgr1 _
  have hb1 : Below w.heap.size w W1 := ((Below.refl _ w).alloc (Nat.le_refl _) _).grown hgr1 (by simp) (fun k hk => by injection hk with hk; omega)
  simp only [Nat.zero_add, List.nil_append] at hown1 ⊢
  have HO1 := Lib.hid hown1
  have HB1 := Lib.hid hb1
  clear hown1 hb1 hgr1
  go_wp2_with fail
  go_ret
  exact ⟨_, rfl, g1, k, c1, rfl, HK.out, HO1.out, HB1.out⟩

def TakeNew (b : List UInt8) (w : World) (e : Ending) (w' : World) : Prop :=
  ∃ v, e = .returned (.tuple #[v, .int .i64 (7 + (ln b : Int)), .int .i64 0]) ∧ NewBytes (rcd b) w v w'

theorem NewBytes.drewN {l : List UInt8} {w : World} {k : Nat} {v : Value} {w' : World} (h : NewBytes l (w.drewN k) v w') : NewBytes l w v w' := by
  obtain ⟨g, n, c, e, hn, ho, hb⟩ := h
  exact ⟨g, n, c, e, hn, ho, ⟨hb.os, hb.tape, hb.output, hb.size, hb.block⟩⟩
theorem Below.ofDrewN {B : Nat} {w w' : World} {k : Nat} (h : Below B (w.drewN k) w') : Below B w w' := ⟨h.os, h.tape, h.output, h.size, h.block⟩

set_option maxRecDepth 100000 in
set_option maxHeartbeats 2000000 in
theorem take_ok (A : Option Addr) (b : List UInt8) (cap : Nat) (w : World) (hA : BytesAt w A b) (hl : b.length ≤ cap) (hm : cap ≤ maxLen) (h : takeE b = 0) :
    Calls Try.prog 53 #[.slice A b.length cap] w (TakeNew b w) := by
  obtain ⟨h1, h2, h3⟩ := takeE_zero.1 h
  have hlr := length_rcd h2
  have hrl : BytesAt w (A.map (·.add 7)) (rcd b) := (hA.drop 7).take _
  have hln : ln b ≤ 4352 := by have := at0_lt b 1; have := (hdrE_zero.1 h1).2.2; unfold ln; omega
  have hln0 : 0 < ln b := by unfold ln; omega
  have hH := length_any A b cap w hA (by omega)
  unfold HdrAns at hH
  rw [h1, if_pos rfl] at hH
  have hST : ∀ N, Calls Try.prog 58 #[.slice A b.length cap] (w.drewN N) fun e w' => e = .returned (.int .u32 (stored b)) ∧ w' = w.drewN N := fun N => (stored_any A b cap _ (hA.drewN N) (by omega) (by omega)).mono fun e w' ⟨x, y⟩ => ⟨x, y.symm⟩
  have hCK : ∀ N, Calls Try.prog 55 #[.slice A 3 cap, .slice (A.map (·.add 7)) (ln b) (cap - 7)] (w.drewN N) fun e w' => e = .returned (.int .u32 (stored b)) ∧ w' = w.drewN N := fun N => by
    have := checksum_any A (A.map (·.add 7)) (b.take 3) (rcd b) cap (cap - 7) _ ((hA.take 3).drewN N) (hrl.drewN N) (by rw [List.length_take]; omega) (by omega)
    rw [List.length_take, Nat.min_eq_left (by omega), hlr, ← h3] at this
    exact this.mono fun e w' ⟨x, y⟩ => ⟨x, y.symm⟩
  have hCL : ∀ N, Calls Try.prog 59 #[.slice (A.map (·.add 7)) (ln b) (cap - 7)] (w.drewN N) (MadeBytes (rcd b) (w.drewN N)) := fun N => clone_any _ _ _ _ _ (hrl.drewN N) hlr.symm hln0 (by omega)
  have hs1 : ∀ W, (Instr.sliceAt 39 (.slice A b.length cap) (some (.int .i64 7)) (some (.int .i64 (7 + (ln b : Int)))) none).run Try.prog W = .ok (.slice (A.map (·.add 7)) (ln b) (cap - 7)) W := fun W => by
    have := u8_slice_mid (W := W) (A := A) (n := b.length) (cap := cap) (k := 7) (m := 7 + ln b) (by omega) (by omega) (by omega) hm
    rw [Nat.add_sub_cancel_left, Int.natCast_add] at this
    exact this
  have hs2 : ∀ W, (Instr.sliceAt 39 (.slice A b.length cap) none (some (.int .i64 3)) none).run Try.prog W = .ok (.slice A 3 cap) W := fun W => u8_slice_to (k := 3) (by omega) hm
  unfold maxLen at hm
  obtain ⟨c7, e7⟩ : ∃ c7, c7 = cap - 7 := ⟨_, rfl⟩
  obtain ⟨A7, eA7⟩ : ∃ A7, A7 = A.map (·.add 7) := ⟨_, rfl⟩
  obtain ⟨n, en⟩ : ∃ n, n = b.length := ⟨_, rfl⟩
  obtain ⟨k, ek⟩ : ∃ k, k = ln b := ⟨_, rfl⟩
  obtain ⟨st, est⟩ : ∃ st, st = stored b := ⟨_, rfl⟩
  rw [← e7, ← eA7, ← ek] at hs1
  rw [← e7, ← eA7, ← ek] at hCL
  simp only [← e7, ← eA7, ← ek, ← est] at hCK
  simp only [← est, ← en] at hST
  simp only [← en] at hs1 hs2
  rw [← en, ← ek] at hH h2
  rw [← ek] at hln hln0
  rw [← en]
  have HT : Hid (∀ v w', NewBytes (rcd b) w v w' → TakeNew b w (.returned (.tuple #[v, .int .i64 (7 + (k : Int)), .int .i64 0])) w') := Lib.hid fun v w' hn => ⟨v, by rw [ek], hn⟩
  have HH := Lib.hid hH
  have HST := Lib.hid hST
  have HCK := Lib.hid hCK
  have HCL := Lib.hid hCL
  rw [← en] at hl
  have hlt : ¬ (n : Int) < 7 + (k : Int) := by omega
  have hne : ((st : Int) != (st : Int)) = false := by simp
  clear hA h h1 h3 hlr hrl hH hST hCK hCL e7 eA7 en ek est h2
  go_enter Try.func53, Try.ntmps53
  go_wp2_with fail
  go_at_call 57
  (with_reducible refine (HH.out).mono ?_)
  rintro e w' ⟨rfl, rfl⟩
  go_wp2_with fail
  go_quiet ((first | (go_at_call 58; exact Calls.quiet_of_same (HST.out _)) | (go_at_call 55; exact Calls.quiet_of_same (HCK.out _))))
  go_wp2_with fail
  go_at_call 59
  (with_reducible refine (HCL.out _).mono ?_)
  rintro e w' ⟨v, rfl, hnew⟩
  have HN := Lib.hid hnew.drewN
  clear hnew
  go_wp2_with fail
  go_ret3
  exact HT.out _ _ HN.out

def TakeNone (b : List UInt8) (w : World) (e : Ending) (w' : World) : Prop :=
  e = .returned (.tuple #[.slice none 0 0, .int .i64 0, .int .i64 (takeE b : Int)]) ∧ Below w.heap.size w w'

set_option maxRecDepth 100000 in
set_option maxHeartbeats 2000000 in
theorem take_no (A : Option Addr) (b : List UInt8) (cap : Nat) (w : World) (hA : BytesAt w A b) (hl : b.length ≤ cap) (hm : cap ≤ maxLen) (h : takeE b ≠ 0) :
    Calls Try.prog 53 #[.slice A b.length cap] w (TakeNone b w) := by
  have hH := length_any A b cap w hA (by omega)
  unfold HdrAns at hH
  by_cases h1 : hdrE b = 0
  · rw [h1, if_pos rfl] at hH
    have hln : ln b ≤ 4352 := by have := at0_lt b 1; have := (hdrE_zero.1 h1).2.2; unfold ln; omega
    have hln0 : 0 < ln b := by unfold ln; omega
    by_cases h2 : b.length < 7 + ln b
    · have hT : TakeNone b w (.returned (.tuple #[.slice none 0 0, .int .i64 0, .int .i64 42])) w := ⟨by rw [takeE_short h1 h2]; rfl, Below.refl _ _⟩
      have HT := Lib.hid hT
      unfold maxLen at hm
      obtain ⟨n, en⟩ : ∃ n, n = b.length := ⟨_, rfl⟩
      obtain ⟨k, ek⟩ : ∃ k, k = ln b := ⟨_, rfl⟩
      rw [← ek] at hH h2 hln hln0
      rw [← en] at hH h2 hl ⊢
      have HH := Lib.hid hH
      have hlt : (n : Int) < 7 + (k : Int) := by omega
      clear hA h h1 hH en ek hT h2
      go_enter Try.func53, Try.ntmps53
      go_wp2_with fail
      go_at_call 57
      (with_reducible refine (HH.out).mono ?_)
      rintro e w' ⟨rfl, rfl⟩
      go_wp2_with fail
      go_ret3
      exact HT.out
    · have h2 : 7 + ln b ≤ b.length := by omega
      by_cases h3 : stored b = more 1 (b.take 3 ++ rcd b)
      · exact absurd (takeE_zero.2 ⟨h1, h2, h3⟩) h
      have hT : ∀ N, TakeNone b w (.returned (.tuple #[.slice none 0 0, .int .i64 0, .int .i64 41])) (w.drewN N) := fun N => ⟨by rw [takeE_sum h1 h2 h3]; rfl, ⟨rfl, rfl, rfl, Nat.le_refl _, fun _ _ => rfl⟩⟩
      have HT := Lib.hid hT
      have hlr := length_rcd h2
      have hrl : BytesAt w (A.map (·.add 7)) (rcd b) := (hA.drop 7).take _
      have hST : ∀ N, Calls Try.prog 58 #[.slice A b.length cap] (w.drewN N) fun e w' => e = .returned (.int .u32 (stored b)) ∧ w' = w.drewN N := fun N => (stored_any A b cap _ (hA.drewN N) (by omega) (by omega)).mono fun e w' ⟨x, y⟩ => ⟨x, y.symm⟩
      have hCK : ∀ N, Calls Try.prog 55 #[.slice A 3 cap, .slice (A.map (·.add 7)) (ln b) (cap - 7)] (w.drewN N) fun e w' => e = .returned (.int .u32 (more 1 (b.take 3 ++ rcd b))) ∧ w' = w.drewN N := fun N => by
        have := checksum_any A (A.map (·.add 7)) (b.take 3) (rcd b) cap (cap - 7) _ ((hA.take 3).drewN N) (hrl.drewN N) (by rw [List.length_take]; omega) (by omega)
        rw [List.length_take, Nat.min_eq_left (by omega), hlr] at this
        exact this.mono fun e w' ⟨x, y⟩ => ⟨x, y.symm⟩
      have hs1 : ∀ W, (Instr.sliceAt 39 (.slice A b.length cap) (some (.int .i64 7)) (some (.int .i64 (7 + (ln b : Int)))) none).run Try.prog W = .ok (.slice (A.map (·.add 7)) (ln b) (cap - 7)) W := fun W => by
        have := u8_slice_mid (W := W) (A := A) (n := b.length) (cap := cap) (k := 7) (m := 7 + ln b) (by omega) (by omega) (by omega) hm
        rw [Nat.add_sub_cancel_left, Int.natCast_add] at this
        exact this
      have hs2 : ∀ W, (Instr.sliceAt 39 (.slice A b.length cap) none (some (.int .i64 3)) none).run Try.prog W = .ok (.slice A 3 cap) W := fun W => u8_slice_to (k := 3) (by omega) hm
      unfold maxLen at hm
      obtain ⟨c7, e7⟩ : ∃ c7, c7 = cap - 7 := ⟨_, rfl⟩
      obtain ⟨A7, eA7⟩ : ∃ A7, A7 = A.map (·.add 7) := ⟨_, rfl⟩
      obtain ⟨n, en⟩ : ∃ n, n = b.length := ⟨_, rfl⟩
      obtain ⟨k, ek⟩ : ∃ k, k = ln b := ⟨_, rfl⟩
      obtain ⟨st, est⟩ : ∃ st, st = stored b := ⟨_, rfl⟩
      obtain ⟨sm, esm⟩ : ∃ sm, sm = more 1 (b.take 3 ++ rcd b) := ⟨_, rfl⟩
      rw [← e7, ← eA7, ← ek] at hs1
      simp only [← e7, ← eA7, ← ek, ← esm] at hCK
      simp only [← est, ← en] at hST
      simp only [← en] at hs1 hs2
      rw [← est, ← esm] at h3
      rw [← en, ← ek] at hH h2
      rw [← ek] at hln hln0
      rw [← en]
      have HH := Lib.hid hH
      have HST := Lib.hid hST
      have HCK := Lib.hid hCK
      rw [← en] at hl
      have hlt : ¬ (n : Int) < 7 + (k : Int) := by omega
      have hne : ((st : Int) != (sm : Int)) = true := by simp; omega
      clear hA h h1 h3 hlr hrl hH hST hCK e7 eA7 en ek est esm h2 hT
      go_enter Try.func53, Try.ntmps53
      go_wp2_with fail
      go_at_call 57
      (with_reducible refine (HH.out).mono ?_)
      rintro e w' ⟨rfl, rfl⟩
      go_wp2_with fail
      go_quiet ((first | (go_at_call 58; exact Calls.quiet_of_same (HST.out _)) | (go_at_call 55; exact Calls.quiet_of_same (HCK.out _))))
      go_wp2_with fail
      go_ret3
      exact HT.out _
  · rw [if_neg h1] at hH
    have hT : TakeNone b w (.returned (.tuple #[.slice none 0 0, .int .i64 0, .int .i64 (hdrE b : Int)])) w := ⟨by rw [takeE_bad h1], Below.refl _ _⟩
    have HT := Lib.hid hT
    obtain ⟨n, en⟩ : ∃ n, n = b.length := ⟨_, rfl⟩
    obtain ⟨x, ex⟩ : ∃ x, x = hdrE b := ⟨_, rfl⟩
    rw [← ex] at hH h1 HT
    rw [← en] at hH ⊢
    have HH := Lib.hid hH
    have hx : ((x : Int) != 0) = true := by simp; omega
    clear hA h h1 hH en ex hT
    go_enter Try.func53, Try.ntmps53
    go_wp2_with fail
    go_at_call 57
    (with_reducible refine (HH.out).mono ?_)
    rintro e w' ⟨rfl, rfl⟩
    go_wp2_with fail
    go_ret3
    exact HT.out
end Go.Proofs.Ytpfdlcogldbocaa
