/-
  What the document's answer takes of bytes that are long enough: the record, where its frame is what stands there. Condition: the bytes lie in memory.
-/
import Derived.Test.YtpfdlcogldbocaaRefTake
import Derived.Deep.RegionHeld3
namespace Go.Proofs.Ytpfdlcogldbocaa
open Go.RowKit Go.Deep

theorem below_drewN (B : Nat) (w : World) (k : Nat) : Below B w (w.drewN k) := ⟨rfl, rfl, rfl, Nat.le_refl _, fun _ _ => rfl⟩

theorem below_of_drewN {w w' : World} {k : Nat} (h : Below (w.drewN k).heap.size (w.drewN k) w') : Below w.heap.size w w' := ⟨h.os, h.tape, h.output, h.size, h.block⟩
def FrFacts (w : World) (A : Option Addr) (m cap : Nat) (S S2 : ByteArray) (e : Ending) (w' : World) : Prop :=
  ∃ g1 c1, e = .returned (.slice (some ⟨g1, 0, none⟩) m c1) ∧ (convert 39 9 (.slice (some ⟨g1, 0, none⟩) m c1)).run Try.prog w' = .ok (.string S) w' ∧
    (convert 39 9 (.slice A m cap)).run Try.prog w' = .ok (.string S2) w' ∧ Below w.heap.size w w'
theorem fr_facts {w : World} {A : Option Addr} {l : List UInt8} {m cap N : Nat} {S S2 : ByteArray} {e : Ending} {w' : World}
    (h1 : ∀ W, Below w.heap.size w W → (convert 39 9 (.slice A m cap)).run Try.prog W = .ok (.string S2) W)
    (h2 : ∀ W g c, BytesAt W (some ⟨g, 0, none⟩) (frame l) → (convert 39 9 (.slice (some ⟨g, 0, none⟩) m c)).run Try.prog W = .ok (.string S) W) (hm : (frame l).length = m) (h : FrameNew l (w.drewN N) e w') : FrFacts w A m cap S S2 e w' := by
  obtain ⟨v, rfl, g, n, c, rfl, hn, ho, hb⟩ := h
  rw [hm] at hn
  subst hn
  exact ⟨g, c, rfl, h2 _ _ _ ho.bytes, h1 _ (below_of_drewN hb), below_of_drewN hb⟩

theorem fold_text : ∀ (l : List UInt8) (r : ByteArray), ((l.map fun b => (b.toNat : Int)).foldl (fun r n => r.push (UInt8.ofNat n.toNat)) r).data.toList = r.data.toList ++ l
  | [], r => by simp
  | x :: l, r => by
    rw [List.map_cons, List.foldl_cons, fold_text l]
    have e : UInt8.ofNat ((x.toNat : Int)).toNat = x := by
      rw [Int.toNat_natCast]
      exact UInt8.ofNat_toNat
    rw [e]
    simp [ByteArray.push]
theorem conv_text : ∃ T : List UInt8 → ByteArray, (∀ l, (T l).data.toList = l) ∧ ∀ (l : List UInt8) (w : World) (A : Option Addr) (c : Nat), BytesAt w A l → (convert 39 9 (.slice A l.length c)).run Try.prog w = .ok (.string (T l)) w := by
  refine ⟨fun l => (l.map fun b => (b.toNat : Int)).foldl (fun r n => r.push (UInt8.ofNat n.toNat)) ByteArray.empty, fun l => by rw [fold_text]; rfl, fun l w A c hb => ?_⟩
  rw [run_convert_bytes_string w 39 9 5 A l.length c Try.underlying39 Try.underlying5 Try.underlying9]
  cases A with
  | none =>
    have : l = [] := by
      cases l with
      | nil => rfl
      | cons b r =>
        obtain ⟨g, o, e, _⟩ := hb 0 b rfl
        cases e
    subst this
    simp [Conv.bytesToString]
  | some a =>
    have hl : (loadCells a l.length).run Try.prog w = .ok ((l.map fun b => (b.toNat : Int)).map (Value.int .u8)).toArray w := by
      have := run_loadCells_list (P := Try.prog) w a ((l.map fun b => (b.toNat : Int)).map (Value.int .u8)) (fun j v hj => by
        obtain ⟨hjl, he⟩ := List.getElem?_eq_some_iff.1 hj
        simp only [List.length_map] at hjl
        obtain ⟨g, o, e, hc⟩ := hb j l[j] (List.getElem?_eq_getElem hjl)
        cases e
        rw [Addr.add_mid, hc, ← he]
        simp [byteV])
      simpa using this
    rw [run_bytesToString w a l.length c (l.map fun b => (b.toNat : Int)) hl]

set_option maxRecDepth 100000 in
set_option maxHeartbeats 2000000 in
theorem refTake_ok (A : Option Addr) (b : List UInt8) (cap : Nat) (w : World) (hA : BytesAt w A b) (hl : b.length ≤ cap) (hm : cap ≤ maxLen) (h : takeE b = 0) :
    Calls Try.prog 54 #[.slice A b.length cap] w (TakeNew b w) := by
  obtain ⟨T, _, hT⟩ := conv_text
  obtain ⟨z1, z2, z3⟩ := takeE_zero.1 h
  obtain ⟨h3, h0, h2⟩ := hdrE_zero.1 z1
  have hlr := length_rcd z2
  have hln0 : 0 < ln b := by unfold ln; omega
  have hrok := rcdOk z1 z2
  have hrl : BytesAt w (A.map (·.add 7)) (rcd b) := (hA.drop 7).take _
  have hfr := (frame_begins z1 z2).2 z3
  have hTb : ∀ W, Below w.heap.size w W → (convert 39 9 (.slice A (7 + ln b) cap)).run Try.prog W = .ok (.string (T (frame (rcd b)))) W := fun W hW => by
    have := hT (b.take (7 + ln b)) W A cap ((hA.take _).below hW)
    rw [List.length_take, Nat.min_eq_left z2, ← hfr] at this
    exact this
  have hTf : ∀ W g c, BytesAt W (some ⟨g, 0, none⟩) (frame (rcd b)) → (convert 39 9 (.slice (some ⟨g, 0, none⟩) (7 + ln b) c)).run Try.prog W = .ok (.string (T (frame (rcd b)))) W := fun W g c hW => by
    have := hT (frame (rcd b)) W _ c hW
    rw [length_frame, hlr] at this
    exact this
  have hFR : ∀ W, Below w.heap.size w W → Calls Try.prog 56 #[.slice (A.map (·.add 7)) (ln b) (cap - 7)] W (FrameNew (rcd b) W) := fun W hW => by
    have := frame_any (A.map (·.add 7)) (rcd b) (cap - 7) W (hrl.below hW) hrok
    rw [hlr] at this
    exact this
  have hs1 : ∀ W, (Instr.sliceAt 39 (.slice A b.length cap) (some (.int .i64 7)) (some (.int .i64 (7 + (ln b : Int)))) none).run Try.prog W = .ok (.slice (A.map (·.add 7)) (ln b) (cap - 7)) W := fun W => by
    have := u8_slice_mid (W := W) (A := A) (n := b.length) (cap := cap) (k := 7) (m := 7 + ln b) (by omega) (by omega) (by omega) hm
    rw [Nat.add_sub_cancel_left, Int.natCast_add] at this
    exact this
  have hs2 : ∀ W, (Instr.sliceAt 39 (.slice A b.length cap) none (some (.int .i64 (7 + (ln b : Int)))) none).run Try.prog W = .ok (.slice A (7 + ln b) cap) W := fun W => by
    have := u8_slice_to (W := W) (A := A) (n := b.length) (cap := cap) (k := 7 + ln b) (by omega) hm
    rw [Int.natCast_add] at this
    exact this
  obtain ⟨g, o, rfl, c0⟩ := cell_at0 hA 0 (by omega)
  obtain ⟨g', o', e', c1⟩ := cell_at0 hA 1 (by omega)
  cases e'
  obtain ⟨g', o', e', c2⟩ := cell_at0 hA 2 (by omega)
  cases e'
  rw [Nat.add_zero] at c0
  have l1 := at0_lt b 1
  have l2 := at0_lt b 2
  have hln : ln b = at0 b 1 + 256 * at0 b 2 + 1 := rfl
  unfold maxLen at hm
  obtain ⟨x0, e0⟩ : ∃ x, x = at0 b 0 := ⟨_, rfl⟩
  obtain ⟨x1, e1⟩ : ∃ x, x = at0 b 1 := ⟨_, rfl⟩
  obtain ⟨x2, e2⟩ : ∃ x, x = at0 b 2 := ⟨_, rfl⟩
  obtain ⟨n, en⟩ : ∃ n, n = b.length := ⟨_, rfl⟩
  obtain ⟨k, ek⟩ : ∃ k, k = ln b := ⟨_, rfl⟩
  obtain ⟨c7, e7⟩ : ∃ c7, c7 = cap - 7 := ⟨_, rfl⟩
  obtain ⟨A7, eA7⟩ : ∃ A7, A7 = (some ⟨g, o, none⟩ : Option Addr).map (·.add 7) := ⟨_, rfl⟩
  obtain ⟨m, em⟩ : ∃ m, m = 7 + ln b := ⟨_, rfl⟩
  obtain ⟨S, eS⟩ : ∃ S, S = T (frame (rcd b)) := ⟨_, rfl⟩
  simp only [← em, ← eS] at hTb hTf
  simp only [← e7, ← eA7, ← ek] at hFR
  simp only [← eA7] at hrl
  simp only [← em] at hs2
  simp only [← e7, ← eA7, ← ek, ← en] at hs1 hs2
  rw [← e1, ← e2, ← ek] at hln
  rw [← e0] at c0 h0
  rw [← e1] at c1 l1
  rw [← e2] at c2 l2 h2
  rw [← en, ← ek] at z2
  rw [← en] at h3 hl ⊢
  rw [← ek] at em hlr
  have HT2 : Hid (∀ v w', NewBytes (rcd b) w v w' → TakeNew b w (.returned (.tuple #[v, .int .i64 (7 + (k : Int)), .int .i64 0])) w') := Lib.hid fun v w' hn => ⟨v, by rw [ek], hn⟩
  have HTB := Lib.hid hTb
  have HTF := Lib.hid hTf
  have HFR := Lib.hid hFR
  have HRL := Lib.hid hrl
  have HLR := Lib.hid hlr
  have HEM := Lib.hid em
  have HLF : Hid ((frame (rcd b)).length = m) := Lib.hid (by rw [length_frame, hlr, em])
  have t0 : ((x0 : Int) != 167) = false := by simp; omega
  have t1 : (0 : Int) < (n : Int) := by omega
  have t2 : (2 : Int) < (n : Int) := by omega
  have t3 : ¬ (16 : Int) ≤ (x2 : Int) := by omega
  have t4 : ¬ (n : Int) < 3 := by omega
  have q1 : IntKind.i64.wrap (256 * (x2 : Int)) = 256 * (x2 : Int) := IntWalk.i64_in _ (by omega)
  have q2 : IntKind.i64.wrap ((x1 : Int) + 256 * (x2 : Int)) = (x1 : Int) + 256 * (x2 : Int) := IntWalk.i64_in _ (by omega)
  have q3 : IntKind.i64.wrap ((x1 : Int) + 256 * (x2 : Int) + 1) = (k : Int) := by rw [IntWalk.i64_in _ (by omega), hln]; simp
  have t5 : ¬ (n : Int) - 7 < (k : Int) := by omega
  have hkb : (k : Int) ≤ 4352 := by omega
  clear hln0 hA h h0 h2 h3 hln e0 e1 e2 en ek e7 eA7 em eS hT hTb hTf hFR hrl hlr z1 z2 z3 hfr hrok
  go_enter Try.func54, Try.ntmps54
  go_wp2
  go_quiet (fail)
  clear q1 q2 q3
  go_wp2_with fail
  have q4 : IntKind.i64.wrap (7 + (k : Int)) = 7 + (k : Int) := IntWalk.i64_in _ (by omega)
  have cb0 : ∀ N, (convert 39 9 (.slice (some ⟨g, o, none⟩) m cap)).run Try.prog (w.drewN N) = .ok (.string S) (w.drewN N) := fun N => HTB.out _ (below_drewN _ _ _)
  have HFF := Lib.hid fun N => (HFR.out _ (below_drewN _ w N)).mono fun e w' h => fr_facts HTB.out HTF.out HLF.out h
  go_region_with ((go_at_call 56; (with_reducible refine (HFF.out _).mono ?_); rintro e w' ⟨g1, c1, rfl, cf, cb, hb1⟩))
  all_goals
    have HB1 := Lib.hid hb1
    clear hb1 cf cb cb0
    go_wp2_with ((refine wpList_append_bytes (k := k) 59 (Own.start' _ _ rfl) (HRL.out.below (HB1.out.alloc HB1.out.size _)) HLR.out.symm rfl rfl ?_ (by simp) ?_))
    · omega
    intro g2 c2 W2 hown2 hgr2 _
    have hb2 : Below w.heap.size w W2 := (HB1.out.alloc HB1.out.size _).grown hgr2 (by have := HB1.out.size; simp; omega) (fun k hk => by injection hk with hk; have := HB1.out.size; omega)
    have hown2 := hown2.weaken (b := w.heap.size) HB1.out.size
    simp only [Nat.zero_add, List.nil_append] at hown2 ⊢
    have HO2 := Lib.hid hown2
    have HB2 := Lib.hid hb2
    clear hown2 hgr2 hb2
    go_wp2_with fail
    go_ret3
    exact HT2.out _ _ ⟨g2, k, c2, rfl, HLR.out.symm, HO2.out, HB2.out⟩

set_option maxRecDepth 100000 in
set_option maxHeartbeats 2000000 in
theorem refTake_sum (A : Option Addr) (b : List UInt8) (cap : Nat) (w : World) (hA : BytesAt w A b) (hl : b.length ≤ cap) (hm : cap ≤ maxLen) (z1 : hdrE b = 0) (z2 : 7 + ln b ≤ b.length) (z3 : stored b ≠ more 1 (b.take 3 ++ rcd b)) :
    Calls Try.prog 54 #[.slice A b.length cap] w (TakeNone b w) := by
  obtain ⟨T, hTI, hT⟩ := conv_text
  have hTN : ∀ W, Below w.heap.size w W → TakeNone b w (.returned (.tuple #[.slice none 0 0, .int .i64 0, .int .i64 41])) W := fun W hW => ⟨by rw [takeE_sum z1 z2 z3]; rfl, hW⟩
  obtain ⟨h3, h0, h2⟩ := hdrE_zero.1 z1
  have hlr := length_rcd z2
  have hln0 : 0 < ln b := by unfold ln; omega
  have hrok := rcdOk z1 z2
  have hrl : BytesAt w (A.map (·.add 7)) (rcd b) := (hA.drop 7).take _
  have hfr : (T (frame (rcd b))).toList ≠ (T (b.take (7 + ln b))).toList := fun e => z3 ((frame_begins z1 z2).1 (by rw [ByteArray.toList_eq, ByteArray.toList_eq, hTI, hTI] at e; exact e))
  have hTb : ∀ W, Below w.heap.size w W → (convert 39 9 (.slice A (7 + ln b) cap)).run Try.prog W = .ok (.string (T (b.take (7 + ln b)))) W := fun W hW => by
    have := hT (b.take (7 + ln b)) W A cap ((hA.take _).below hW)
    rw [List.length_take, Nat.min_eq_left z2] at this
    exact this
  have hTf : ∀ W g c, BytesAt W (some ⟨g, 0, none⟩) (frame (rcd b)) → (convert 39 9 (.slice (some ⟨g, 0, none⟩) (7 + ln b) c)).run Try.prog W = .ok (.string (T (frame (rcd b)))) W := fun W g c hW => by
    have := hT (frame (rcd b)) W _ c hW
    rw [length_frame, hlr] at this
    exact this
  have hFR : ∀ W, Below w.heap.size w W → Calls Try.prog 56 #[.slice (A.map (·.add 7)) (ln b) (cap - 7)] W (FrameNew (rcd b) W) := fun W hW => by
    have := frame_any (A.map (·.add 7)) (rcd b) (cap - 7) W (hrl.below hW) hrok
    rw [hlr] at this
    exact this
  have hs1 : ∀ W, (Instr.sliceAt 39 (.slice A b.length cap) (some (.int .i64 7)) (some (.int .i64 (7 + (ln b : Int)))) none).run Try.prog W = .ok (.slice (A.map (·.add 7)) (ln b) (cap - 7)) W := fun W => by
    have := u8_slice_mid (W := W) (A := A) (n := b.length) (cap := cap) (k := 7) (m := 7 + ln b) (by omega) (by omega) (by omega) hm
    rw [Nat.add_sub_cancel_left, Int.natCast_add] at this
    exact this
  have hs2 : ∀ W, (Instr.sliceAt 39 (.slice A b.length cap) none (some (.int .i64 (7 + (ln b : Int)))) none).run Try.prog W = .ok (.slice A (7 + ln b) cap) W := fun W => by
    have := u8_slice_to (W := W) (A := A) (n := b.length) (cap := cap) (k := 7 + ln b) (by omega) hm
    rw [Int.natCast_add] at this
    exact this
  obtain ⟨g, o, rfl, c0⟩ := cell_at0 hA 0 (by omega)
  obtain ⟨g', o', e', c1⟩ := cell_at0 hA 1 (by omega)
  cases e'
  obtain ⟨g', o', e', c2⟩ := cell_at0 hA 2 (by omega)
  cases e'
  rw [Nat.add_zero] at c0
  have l1 := at0_lt b 1
  have l2 := at0_lt b 2
  have hln : ln b = at0 b 1 + 256 * at0 b 2 + 1 := rfl
  unfold maxLen at hm
  obtain ⟨x0, e0⟩ : ∃ x, x = at0 b 0 := ⟨_, rfl⟩
  obtain ⟨x1, e1⟩ : ∃ x, x = at0 b 1 := ⟨_, rfl⟩
  obtain ⟨x2, e2⟩ : ∃ x, x = at0 b 2 := ⟨_, rfl⟩
  obtain ⟨n, en⟩ : ∃ n, n = b.length := ⟨_, rfl⟩
  obtain ⟨k, ek⟩ : ∃ k, k = ln b := ⟨_, rfl⟩
  obtain ⟨c7, e7⟩ : ∃ c7, c7 = cap - 7 := ⟨_, rfl⟩
  obtain ⟨A7, eA7⟩ : ∃ A7, A7 = (some ⟨g, o, none⟩ : Option Addr).map (·.add 7) := ⟨_, rfl⟩
  obtain ⟨m, em⟩ : ∃ m, m = 7 + ln b := ⟨_, rfl⟩
  obtain ⟨S, eS⟩ : ∃ S, S = T (frame (rcd b)) := ⟨_, rfl⟩
  obtain ⟨S2, eS2⟩ : ∃ S2, S2 = T (b.take (7 + ln b)) := ⟨_, rfl⟩
  simp only [← eS2] at hTb hfr
  simp only [← em, ← eS] at hTb hTf hfr
  simp only [← e7, ← eA7, ← ek] at hFR
  simp only [← eA7] at hrl
  simp only [← em] at hs2
  simp only [← e7, ← eA7, ← ek, ← en] at hs1 hs2
  rw [← e1, ← e2, ← ek] at hln
  rw [← e0] at c0 h0
  rw [← e1] at c1 l1
  rw [← e2] at c2 l2 h2
  rw [← en, ← ek] at z2
  rw [← en] at h3 hl ⊢
  rw [← ek] at em hlr
  have HTN := Lib.hid hTN
  have s1 : (S.toList == S2.toList) = false := by simpa using hfr
  have HTB := Lib.hid hTb
  have HTF := Lib.hid hTf
  have HFR := Lib.hid hFR
  have HRL := Lib.hid hrl
  have HLR := Lib.hid hlr
  have HEM := Lib.hid em
  have HLF : Hid ((frame (rcd b)).length = m) := Lib.hid (by rw [length_frame, hlr, em])
  have t0 : ((x0 : Int) != 167) = false := by simp; omega
  have t1 : (0 : Int) < (n : Int) := by omega
  have t2 : (2 : Int) < (n : Int) := by omega
  have t3 : ¬ (16 : Int) ≤ (x2 : Int) := by omega
  have t4 : ¬ (n : Int) < 3 := by omega
  have q1 : IntKind.i64.wrap (256 * (x2 : Int)) = 256 * (x2 : Int) := IntWalk.i64_in _ (by omega)
  have q2 : IntKind.i64.wrap ((x1 : Int) + 256 * (x2 : Int)) = (x1 : Int) + 256 * (x2 : Int) := IntWalk.i64_in _ (by omega)
  have q3 : IntKind.i64.wrap ((x1 : Int) + 256 * (x2 : Int) + 1) = (k : Int) := by rw [IntWalk.i64_in _ (by omega), hln]; simp
  have t5 : ¬ (n : Int) - 7 < (k : Int) := by omega
  have hkb : (k : Int) ≤ 4352 := by omega
  clear hTN hTI eS2 hln0 hA h0 h2 h3 hln e0 e1 e2 en ek e7 eA7 em eS hT hTb hTf hFR hrl hlr z1 z2 z3 hfr hrok
  go_enter Try.func54, Try.ntmps54
  go_wp2
  go_quiet (fail)
  clear q1 q2 q3
  go_wp2_with fail
  have q4 : IntKind.i64.wrap (7 + (k : Int)) = 7 + (k : Int) := IntWalk.i64_in _ (by omega)
  have cb0 : ∀ N, (convert 39 9 (.slice (some ⟨g, o, none⟩) m cap)).run Try.prog (w.drewN N) = .ok (.string S2) (w.drewN N) := fun N => HTB.out _ (below_drewN _ _ _)
  have HFF := Lib.hid fun N => (HFR.out _ (below_drewN _ w N)).mono fun e w' h => fr_facts HTB.out HTF.out HLF.out h
  go_region_with ((go_at_call 56; (with_reducible refine (HFF.out _).mono ?_); rintro e w' ⟨g1, c1, rfl, cf, cb, hb1⟩))
  all_goals
    have HB1 := Lib.hid hb1
    clear hb1 cf cb cb0
    go_wp2_with fail
    go_ret3
    exact HTN.out _ HB1.out

theorem refTake_no (A : Option Addr) (b : List UInt8) (cap : Nat) (w : World) (hA : BytesAt w A b) (hl : b.length ≤ cap) (hm : cap ≤ maxLen) (h : takeE b ≠ 0) :
    Calls Try.prog 54 #[.slice A b.length cap] w (TakeNone b w) := by
  by_cases h1 : hdrE b = 0
  · by_cases h2 : b.length < 7 + ln b
    · exact refTake_short A b cap w hA (by omega) h1 h2
    · refine refTake_sum A b cap w hA hl hm h1 (by omega) (fun h3 => h (takeE_zero.2 ⟨h1, by omega, h3⟩))
  · exact refTake_bad A b cap w hA (by omega) h1
end Go.Proofs.Ytpfdlcogldbocaa
