/-
  The law's count and few: how many nodes a tree has, as far as there are no more than so many. No condition.
-/
import Derived.Test.YtcbgbicdfpkikaaGreatDoorK18
import Derived.Test.YtcbgbicdfpkikaaGreatDoorMrow9
import Derived.BigGuard
namespace Go.Proofs.YtcbgbicdfpkikaaGreatDoor
open Go.RowKit Go.Deep

mutual
def cntN : PN → Nat
  | .mk _ _ _ _ _ ks => 1 + cntNL ks
def cntNL : List PN → Nat
  | [] => 0
  | t :: ts => cntN t + cntNL ts
end
theorem cntNL_snoc (l : List PN) (t : PN) : cntNL (l ++ [t]) = cntNL l + cntN t := by
  induction l with
  | nil => simp [cntNL]
  | cons a l ih => simp only [List.cons_append, cntNL, ih]; omega
theorem cntN_pos (t : PN) : 1 ≤ cntN t := by
  obtain ⟨k, S, lo, hi, num, ks⟩ := t
  rw [cntN]
  omega
theorem cntNL_len (l : List PN) : l.length ≤ cntNL l := by
  induction l with
  | nil => exact Nat.zero_le _
  | cons a l ih => have := cntN_pos a; simp only [List.length_cons, cntNL]; omega
mutual
theorem nod_cntN : ∀ t : PN, nodT t ≤ 2 * cntN t
  | .mk k S lo hi num ks => by
    have h1 := nod_cntL ks
    have h2 := nod_cntH ks
    rw [nodT, cntN]
    split
    · omega
    · split <;> omega
theorem nod_cntL : ∀ l : List PN, nodL l ≤ 2 * cntNL l
  | [] => by simp [nodL]
  | t :: ts => by
    have h1 := nod_cntN t
    have h2 := nod_cntL ts
    rw [nodL, cntNL]
    omega
theorem nod_cntH : ∀ l : List PN, nodH l ≤ 1 + 2 * cntNL l
  | [] => by simp [nodH]
  | t :: ts => by
    have h1 := nod_cntN t
    rw [nodH, cntNL]
    omega
end
/-- What count answers. -/
def CntA (t : PN) (L : Nat) (w : World) (e : Ending) (w' : World) : Prop := ∃ r : Nat, e = .returned (.int .i64 (r : Int)) ∧ 1 ≤ r ∧ r ≤ L ∧ (r < L → r = cntN t) ∧ Below w.heap.size w w'
def WalkC (t : PN) : Prop := ∀ L : Nat, 1 ≤ L → L ≤ 1000 → ∀ (S : Nat → Prop) (w : World) (y : NV), IsP S w t y → Calls Tryz.prog 25 #[y.v, .int .i64 (L : Int)] w (CntA t L w)
structure CntR (w : World) (kids : List PN) (o : Obj) (L : Nat) (i k : Nat) (wr : World) : Prop where
  il : i ≤ kids.length
  ik : i + 1 ≤ k
  kL : k ≤ L
  ex : k < L → k = 1 + cntNL (kids.take i)
  bel : Below (w.heap.size + 1) (w.alloc o) wr
theorem CntR.step {w wr w5 : World} {kids : List PN} {o : Obj} {L i k r : Nat} {t : PN} (h : CntR w kids o L i k wr) (ht : kids[i]? = some t) (hk : k < L) (h1 : 1 ≤ r) (h2 : r ≤ L - k) (h3 : r < L - k → r = cntN t) (hb : Below wr.heap.size wr w5) : CntR w kids o L (i + 1) (k + r) w5 := by
  have hl := (List.getElem?_eq_some_iff.1 ht).1
  refine ⟨hl, by have := h.ik; omega, by omega, fun hlt => ?_, h.bel.trans (hb.mono (by have := h.bel.size; rw [World.size_alloc] at this; exact this))⟩
  rw [h3 (by omega), h.ex hk]
  have e : kids.take (i + 1) = kids.take i ++ [t] := by
    rw [List.take_succ_eq_append_getElem hl]
    rw [List.getElem?_eq_getElem hl] at ht
    injection ht with ht
    rw [ht]
  rw [e, cntNL_snoc]
  omega
set_option maxRecDepth 100000 in
set_option maxHeartbeats 1000000 in
theorem count_one {k : Int} {T : Nat → Nat} {lo hi num : Int} {kids : List PN} (ih : ∀ t ∈ kids, WalkC t) {L : Nat} (hL1 : 1 ≤ L) (hL2 : L ≤ 1000) {S : Nat → Prop} {w : World} {xs : List NV} {A : Option Addr} {c : Nat} (hl : xs.length = kids.length) (hr : RawOff S w A (nsV xs)) (hk : ∀ (i : Nat) (t : PN) (x : NV), kids[i]? = some t → xs[i]? = some x → IsP S w t x) : Calls Tryz.prog 25 #[.agg #[.int .i64 k, .int .u64 (T 0), .int .u64 (T 1), .int .u64 (T 2), .int .u64 (T 3), .int .i64 lo, .int .i64 hi, .int .i64 num, .slice A kids.length c], .int .i64 (L : Int)] w (CntA (.mk k T lo hi num kids) L w) := by
  have HR := Lib.hid (And.intro hl (And.intro hr (And.intro hk ih)))
  have HL := Lib.hid (And.intro hL1 hL2)
  obtain ⟨N, hN⟩ : ∃ N, N = kids.length := ⟨_, rfl⟩
  have HN := Lib.hid hN
  rw [← hN]
  clear hl hr hk hN ih hL1 hL2
  go_enter Tryz.func25, Tryz.ntmps25
  go_wp2_with fail
  go_loopw [5, 6] (fun kv iv wr => ∃ i k' : Nat, iv = .int .i64 (i : Int) ∧ kv = .int .i64 (k' : Int) ∧ CntR w kids (.cells #[.int .i64 k, .int .u64 (T 0), .int .u64 (T 1), .int .u64 (T 2), .int .u64 (T 3), .int .i64 lo, .int .i64 hi, .int .i64 num, .slice A N c] 28) L i k' wr) (fun _ iv _ => kids.length - (intOf iv).toNat)
  case atStart => exact ⟨0, 1, rfl, rfl, Nat.zero_le _, Nat.le_refl _, HL.out.1, fun _ => by simp [cntNL], Below.refl _ _⟩
  case round =>
    obtain ⟨i, s, rfl, rfl, hC⟩ := hrel
    have HC := Lib.hid hC
    have hb' := (bA w _).trans (hC.bel.mono (Nat.le_succ _))
    have kx : wr.cell? ⟨w.heap.size, 8, none⟩ = some (.slice A N c) := by
      rw [hC.bel.cell (Nat.lt_succ_self _), obj_cell (heap_alloc_new w _)]
      rfl
    have hlw : w.heap.size < wr.heap.size := World.block_lt_of_cell? wr _ kx
    clear hC
    by_cases hlt : i < N
    · by_cases hsl : s < L
      · obtain ⟨t, ht⟩ : ∃ t, kids[i]? = some t := ⟨kids[i]'(by rw [← HN.out]; exact hlt), List.getElem?_eq_getElem _⟩
        obtain ⟨x, hx⟩ : ∃ x, xs[i]? = some x := ⟨xs[i]'(by rw [HR.out.1, ← HN.out]; exact hlt), List.getElem?_eq_getElem _⟩
        obtain ⟨b, o, he, hbl, hcs⟩ := row_at HR.out.2.1 (by rintro rfl; simp at hx)
        cases he
        obtain ⟨m0, m1, m2, m3, m4, m5, m6, m7, m8⟩ := hcs i x hx
        have n0 := (hb'.cell hbl).trans m0
        have n1 := (hb'.cell hbl).trans m1
        have n2 := (hb'.cell hbl).trans m2
        have n3 := (hb'.cell hbl).trans m3
        have n4 := (hb'.cell hbl).trans m4
        have n5 := (hb'.cell hbl).trans m5
        have n6 := (hb'.cell hbl).trans m6
        have n7 := (hb'.cell hbl).trans m7
        have n8 := (hb'.cell hbl).trans m8
        have hcall := (HR.out.2.2.2 t (List.mem_of_getElem? ht)) (L - s) (by omega) (by have := HL.out.2; omega) S wr x ((HR.out.2.2.1 i t x ht hx).stays hb')
        rw [NV.v_eq] at hcall
        obtain ⟨q, hq⟩ : ∃ q, q = L - s := ⟨_, rfl⟩
        rw [← hq] at hcall
        have HCC := Lib.hid hcall
        have HT := Lib.hid (And.intro ht (And.intro hsl hq))
        have hsb : IntKind.i64.wrap ((L : Int) - (s : Int)) = (q : Int) := by rw [IntWalk.i64_in _ (by have := HL.out.2; omega)]; omega
        have hsb2 : wrap64 ((L : Int) - (s : Int)) = (q : Int) := by rw [IntWalk.wrap64_in _ (by have := HL.out.2; omega)]; omega
        have HSB := Lib.hid hsb2
        have hiI : (i : Int) < (N : Int) := by omega
        have hi0 : (0 : Int) ≤ (i : Int) := by omega
        have hsI : (s : Int) < (L : Int) := by omega
        have dsI : decide ((s : Int) < (L : Int)) = true := decide_eq_true hsI
        have dsN : decide (s < L) = true := decide_eq_true hsl
        have hi4 : i < 4096 := by have := HC.out.ik; have := HL.out.2; omega
        clear hcall hcs m0 m1 m2 m3 m4 m5 m6 m7 m8 hb' ht hx hq hsb2 hsl
        go_wp2_with fail
        go_at_call 25
        with_reducible refine HCC.out.mono ?_
        rintro e w5 ⟨r, rfl, hr1, hr2, hr3, hb5⟩
        have HS5 := Lib.hid (HC.out.step HT.out.1 HT.out.2.1 hr1 (by rw [← HT.out.2.2]; exact hr2) (by rw [← HT.out.2.2]; exact hr3) hb5)
        have hadd : IntKind.i64.wrap ((s : Int) + (r : Int)) = ((s + r : Nat) : Int) := by rw [IntWalk.i64_in _ (by have := HL.out.2; have := HS5.out.kL; omega)]; omega
        obtain ⟨z, hz⟩ : ∃ z, z = s + r := ⟨_, rfl⟩
        rw [← hz] at hadd
        have HZ := Lib.hid hz
        clear hr1 hr2 hr3 hb5 hz
        go_wp2_with fail
        go_roundw
        case rel => exact ⟨i + 1, z, by go_num, by first | rfl | rw [hadd], by rw [HZ.out]; exact HS5.out⟩
        case measure => have := HN.out; simp [intOf]; omega
      · have hkL := HC.out.kL
        have hs : s = L := by omega
        have HP := Lib.hid (show CntA (.mk k T lo hi num kids) L w (.returned (.int .i64 (s : Int))) wr from ⟨s, rfl, by have := HC.out.ik; omega, hkL, fun h => by omega, hb'⟩)
        have hiI : (i : Int) < (N : Int) := by omega
        have dsI : decide ((s : Int) < (L : Int)) = false := decide_eq_false (by omega)
        have dsN : decide (s < L) = false := decide_eq_false (by omega)
        clear hb' hs hkL hsl
        go_wp2_with fail
        go_ret
        exact HP.out
    · have he : i = N := by have := HC.out.il; rw [← HN.out] at this; omega
      subst he
      have HP := Lib.hid (show CntA (.mk k T lo hi num kids) L w (.returned (.int .i64 (s : Int))) wr from ⟨s, rfl, by have := HC.out.ik; omega, HC.out.kL, fun h => by rw [cntN, HC.out.ex h, HN.out, List.take_length], hb'⟩)
      have hiI : ¬ (i : Int) < (i : Int) := by omega
      clear hb' hlt
      go_wp2_with fail
      go_ret
      exact HP.out
theorem kid_size {k : Int} {T : Nat → Nat} {lo hi num : Int} {kids : List PN} {t : PN} (h : t ∈ kids) : SizeOf.sizeOf t < SizeOf.sizeOf (PN.mk k T lo hi num kids) := by
  have := List.sizeOf_lt_of_mem h
  simp only [PN.mk.sizeOf_spec]
  omega
theorem count_is : ∀ (n : Nat) (t : PN), SizeOf.sizeOf t < n → WalkC t
  | 0, t, h => absurd h (Nat.not_lt_zero _)
  | n + 1, .mk k T lo hi num kids, h => fun L h1 h2 S w y hy => by
    cases hy with
    | mk xs hl hc hr hkk => exact count_one (fun t ht => count_is n t (by have := kid_size (k := k) (T := T) (lo := lo) (hi := hi) (num := num) ht; omega)) h1 h2 hl hr hkk
/-- What few answers. -/
def FewA (t : PN) (w : World) (e : Ending) (w' : World) : Prop := ∃ b : Bool, e = .returned (.bool b) ∧ (b = true → cntN t ≤ 30) ∧ Below w.heap.size w w'
set_option maxRecDepth 100000 in
theorem few_is (t : PN) {S : Nat → Prop} {w : World} {y : NV} (hy : IsP S w t y) : Calls Tryz.prog 14 #[y.v] w (FewA t w) := by
  have h : ∀ W : World, Below w.heap.size w W → Calls Tryz.prog 25 #[y.v, .int .i64 31] W (CntA t 31 W) := fun W hW => count_is (SizeOf.sizeOf t + 1) t (Nat.lt_succ_self _) 31 (by omega) (by omega) S W y (hy.stays hW)
  rw [NV.v_eq] at h ⊢
  have HC := Lib.hid (h _ (bA w (.cells #[.int .i64 y.kind, .int .u64 (y.set 0), .int .u64 (y.set 1), .int .u64 (y.set 2), .int .u64 (y.set 3), .int .i64 y.lo, .int .i64 y.hi, .int .i64 y.num, .slice y.A y.n y.c] 28)))
  have HB := Lib.hid (bA w (.cells #[.int .i64 y.kind, .int .u64 (y.set 0), .int .u64 (y.set 1), .int .u64 (y.set 2), .int .u64 (y.set 3), .int .i64 y.lo, .int .i64 y.hi, .int .i64 y.num, .slice y.A y.n y.c] 28))
  clear h hy
  go_enter Tryz.func14, Tryz.ntmps14
  go_wp2_with fail
  go_at_call 25
  with_reducible refine HC.out.mono ?_
  rintro e w5 ⟨r, rfl, h1, h2, h3, hb⟩
  by_cases h30 : r ≤ 30
  · have d1 : decide ((r : Int) ≤ 30) = true := decide_eq_true (by omega)
    have d2 : decide (r ≤ 30) = true := decide_eq_true h30
    have HP := Lib.hid (show FewA t w (.returned (.bool true)) w5 from ⟨true, rfl, fun _ => by have := h3 (by omega); omega, HB.out.trans (hb.mono HB.out.size)⟩)
    clear h1 h2 h3 hb h30
    go_wp2_with fail
    go_ret
    exact HP.out
  · have d1 : decide ((r : Int) ≤ 30) = false := decide_eq_false (by omega)
    have d2 : decide (r ≤ 30) = false := decide_eq_false h30
    have HP := Lib.hid (show FewA t w (.returned (.bool false)) w5 from ⟨false, rfl, (fun h => by cases h), HB.out.trans (hb.mono HB.out.size)⟩)
    clear h1 h2 h3 hb h30
    go_wp2_with fail
    go_ret
    exact HP.out
end Go.Proofs.YtcbgbicdfpkikaaGreatDoor
