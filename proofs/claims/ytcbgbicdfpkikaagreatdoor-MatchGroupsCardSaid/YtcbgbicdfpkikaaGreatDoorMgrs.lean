/-
  The law's groups: how many groups a tree has. Conditions: at most 4096 kids each, a million groups.
-/
import Derived.Test.YtcbgbicdfpkikaaGreatDoorMgp
import Derived.Test.YtcbgbicdfpkikaaGreatDoorMrow9
namespace Go.Proofs.YtcbgbicdfpkikaaGreatDoor
open Go.RowKit Go.Deep

mutual
/-- A tree of so many groups. -/
inductive Grpd : PN → Nat → Prop
  | mk (k : Int) (T : Nat → Nat) (lo hi num : Int) (kids : List PN) (n : Nat) (h4 : kids.length ≤ 4096) (h : GrpdL kids n) : Grpd (.mk k T lo hi num kids) (grpK k + n)
inductive GrpdL : List PN → Nat → Prop
  | nil : GrpdL [] 0
  | cons {t : PN} {r : List PN} {a b : Nat} (h : Grpd t a) (k : GrpdL r b) : GrpdL (t :: r) (a + b)
end
mutual
theorem right_grpd : ∀ (t : PN) (g g' : Nat), Right t g g' → Grpd t (grpC t)
  | .mk k S lo hi num ks, g, g', h => by
    rw [grpC]
    cases h with
    | leaf _ _ _ _ _ _ hk => exact .mk _ _ _ _ _ _ _ (by simp) (by rw [grpCL]; exact .nil)
    | many _ _ _ _ _ _ _ _ hk _ h4 hl => exact .mk _ _ _ _ _ _ _ h4 (right_grpdL ks g g' hl)
    | group _ _ _ n _ _ hl => exact .mk _ _ _ _ _ _ _ (by simp) (right_grpdL [n] (g + 1) g' hl)
    | rep _ _ _ _ n _ _ _ _ _ _ _ hl => exact .mk _ _ _ _ _ _ _ (by simp) (right_grpdL [n] g g' hl)
theorem right_grpdL : ∀ (ts : List PN) (g g' : Nat), RightL ts g g' → GrpdL ts (grpCL ts)
  | [], g, g', h => by
    rw [grpCL]
    exact .nil
  | t :: ts, g, g', h => by
    cases h with
    | cons h1 h2 =>
      rw [grpCL]
      exact .cons (right_grpd t _ _ h1) (right_grpdL ts _ _ h2)
end
def GrpW (P : PN → Nat → Prop) : List PN → Nat → Prop
  | [], n => n = 0
  | t :: r, n => ∃ a b, P t a ∧ GrpW P r b ∧ n = a + b
def WalkG (t : PN) (n : Nat) : Prop := n ≤ 1000000 → ∀ (S : Nat → Prop) (w : World) (y : NV), IsP S w t y → Calls Tryz.prog 20 #[y.v] w fun e w' => e = .returned (.int .i64 (n : Int)) ∧ Below w.heap.size w w'
def GRel (w : World) (kids : List PN) (o : Obj) (n : Nat) (cv iv : Value) (wr : World) : Prop := ∃ i s r : Nat, iv = .int .i64 (i : Int) ∧ cv = .int .i64 (s : Int) ∧ i ≤ kids.length ∧ GrpW WalkG (kids.drop i) r ∧ s + r = n ∧ Below (w.heap.size + 1) (w.alloc o) wr
set_option maxRecDepth 100000 in
set_option maxHeartbeats 1000000 in
theorem groups_one {k : Int} {T : Nat → Nat} {lo hi num : Int} {kids : List PN} {n : Nat} (hn4 : kids.length ≤ 4096) (hw : GrpW WalkG kids n) (hg' : grpK k + n ≤ 1000000) {S : Nat → Prop} {w : World} {xs : List NV} {A : Option Addr} {c : Nat} (hl : xs.length = kids.length) (hr : RawOff S w A (nsV xs)) (hk : ∀ (i : Nat) (t : PN) (x : NV), kids[i]? = some t → xs[i]? = some x → IsP S w t x) : Calls Tryz.prog 20 #[.agg #[.int .i64 k, .int .u64 (T 0), .int .u64 (T 1), .int .u64 (T 2), .int .u64 (T 3), .int .i64 lo, .int .i64 hi, .int .i64 num, .slice A kids.length c]] w fun e w' => e = .returned (.int .i64 ((grpK k + n : Nat) : Int)) ∧ Below w.heap.size w w' := by
  have HW := Lib.hid hw
  have HR := Lib.hid (And.intro hl (And.intro hr hk))
  obtain ⟨M, hM⟩ : ∃ M, M = grpK k + n := ⟨_, rfl⟩
  rw [← hM]
  have HG := Lib.hid (show M ≤ 1000000 by omega)
  have HM := Lib.hid hM
  obtain ⟨N, hN⟩ : ∃ N, N = kids.length := ⟨_, rfl⟩
  have HN := Lib.hid hN
  have hN4 : N ≤ 4096 := by omega
  rw [← hN]
  clear hw hl hr hk hg' hN hn4 hM
  by_cases h5 : k = 5
  · subst h5
    have HU := Lib.hid (show 1 + n = M from by rw [HM.out]; rfl)
    go_enter Tryz.func20, Tryz.ntmps20
    go_wp2_with fail
    go_loopw [3, 4] (fun cv iv wr => GRel w kids (.cells #[.int .i64 5, .int .u64 (T 0), .int .u64 (T 1), .int .u64 (T 2), .int .u64 (T 3), .int .i64 lo, .int .i64 hi, .int .i64 num, .slice A N c] 28) M cv iv wr) (fun _ iv _ => kids.length - (intOf iv).toNat)
    case atStart => exact ⟨0, 1, n, rfl, rfl, Nat.zero_le _, HW.out, HU.out, Below.refl _ _⟩
    case round =>
      obtain ⟨i, s, r, rfl, rfl, hi', hrw, hsum, hbr⟩ := hrel
      have hb' := (bA w _).trans (hbr.mono (Nat.le_succ _))
      have kx : wr.cell? ⟨w.heap.size, 8, none⟩ = some (.slice A N c) := by
        rw [hbr.cell (Nat.lt_succ_self _), obj_cell (heap_alloc_new w _)]
        rfl
      have hlw : w.heap.size < wr.heap.size := World.block_lt_of_cell? wr _ kx
      by_cases hlt : i < N
      · obtain ⟨t, ht⟩ : ∃ t, kids[i]? = some t := ⟨kids[i]'(by rw [← HN.out]; exact hlt), List.getElem?_eq_getElem _⟩
        obtain ⟨x, hx⟩ : ∃ x, xs[i]? = some x := ⟨xs[i]'(by rw [HR.out.1, ← HN.out]; exact hlt), List.getElem?_eq_getElem _⟩
        have hdrop : kids.drop i = t :: kids.drop (i + 1) := by
          obtain ⟨hh, e⟩ := List.getElem?_eq_some_iff.1 ht
          rw [List.drop_eq_getElem_cons hh, e]
        rw [hdrop] at hrw
        obtain ⟨a, b', hP, hrest, hab⟩ := hrw
        obtain ⟨b, o, he, hbl, hcs⟩ := row_at HR.out.2.1 (by rintro rfl; simp at hx)
        cases he
        obtain ⟨m0, m1, m2, m3, m4, m5, m6, m7, m8⟩ := hcs i x hx
        have n0 := (hb'.cell hbl).trans m0
        have n1 := (hb'.cell hbl).trans m1
        have n2 := (hb'.cell hbl).trans m2
        have n3 := (hb'.cell hbl).trans m3
        have n4 := (hb'.cell hbl).trans m4
        have n5 := (hb'.cell hbl).trans m5
        have n6 := (hb'.cell hbl).trans m6
        have n7 := (hb'.cell hbl).trans m7
        have n8 := (hb'.cell hbl).trans m8
        have hle : s + a ≤ 1000000 := by have := HG.out; omega
        have hcall := hP (by omega) S wr x ((HR.out.2.2 i t x ht hx).stays hb')
        rw [NV.v_eq] at hcall
        have HC := Lib.hid hcall
        have HRE := Lib.hid hrest
        have HBR := Lib.hid hbr
        have HS := Lib.hid (show s + a + b' = M by omega)
        have hadd : IntKind.i64.wrap ((s : Int) + (a : Int)) = ((s + a : Nat) : Int) := by rw [IntWalk.i64_in _ (by omega)]; omega
        obtain ⟨q, hq⟩ : ∃ q, q = s + a := ⟨_, rfl⟩
        rw [← hq] at hadd
        have HQ := Lib.hid hq
        have hiI : (i : Int) < (N : Int) := by omega
        have hi0 : (0 : Int) ≤ (i : Int) := by omega
        have hi4 : i < 4096 := by omega
        clear hcall hrest hbr hP hcs m0 m1 m2 m3 m4 m5 m6 m7 m8 hb' hdrop ht hx hsum hab hle hq
        go_wp2_with fail
        go_at_call 20
        with_reducible refine HC.out.mono ?_
        rintro e w5 ⟨rfl, hb5⟩
        have HB5 := Lib.hid hb5
        clear hb5
        go_wp2_with fail
        go_roundw
        case rel => exact ⟨i + 1, q, b', by go_num, by first | rfl | rw [hadd], by have := HN.out; omega, HRE.out, by rw [HQ.out]; exact HS.out, HBR.out.trans (HB5.out.mono (by have := HBR.out.size; rw [World.size_alloc] at this; exact this))⟩
        case measure => have := HN.out; simp [intOf]; omega
      · have he : i = N := by rw [← HN.out] at hi'; omega
        subst he
        have hiI : ¬ (i : Int) < (i : Int) := by omega
        have hg : s = M := by
          rw [HN.out, List.drop_length] at hrw
          have : r = 0 := hrw
          omega
        subst hg
        have HB := Lib.hid hb'
        clear hbr hb' hrw hsum
        go_wp2_with fail
        go_ret
        exact ⟨rfl, HB.out⟩
  · have g5 : (k == 5) = false := beq_eq_false_iff_ne.2 h5
    have HU := Lib.hid (show 0 + n = M from by rw [HM.out]; unfold grpK; rw [if_neg h5])
    clear h5
    go_enter Tryz.func20, Tryz.ntmps20
    go_wp2_with fail
    go_loopw [3, 4] (fun cv iv wr => GRel w kids (.cells #[.int .i64 k, .int .u64 (T 0), .int .u64 (T 1), .int .u64 (T 2), .int .u64 (T 3), .int .i64 lo, .int .i64 hi, .int .i64 num, .slice A N c] 28) M cv iv wr) (fun _ iv _ => kids.length - (intOf iv).toNat)
    case atStart => exact ⟨0, 0, n, rfl, rfl, Nat.zero_le _, HW.out, HU.out, Below.refl _ _⟩
    case round =>
      obtain ⟨i, s, r, rfl, rfl, hi', hrw, hsum, hbr⟩ := hrel
      have hb' := (bA w _).trans (hbr.mono (Nat.le_succ _))
      have kx : wr.cell? ⟨w.heap.size, 8, none⟩ = some (.slice A N c) := by
        rw [hbr.cell (Nat.lt_succ_self _), obj_cell (heap_alloc_new w _)]
        rfl
      have hlw : w.heap.size < wr.heap.size := World.block_lt_of_cell? wr _ kx
      by_cases hlt : i < N
      · obtain ⟨t, ht⟩ : ∃ t, kids[i]? = some t := ⟨kids[i]'(by rw [← HN.out]; exact hlt), List.getElem?_eq_getElem _⟩
        obtain ⟨x, hx⟩ : ∃ x, xs[i]? = some x := ⟨xs[i]'(by rw [HR.out.1, ← HN.out]; exact hlt), List.getElem?_eq_getElem _⟩
        have hdrop : kids.drop i = t :: kids.drop (i + 1) := by
          obtain ⟨hh, e⟩ := List.getElem?_eq_some_iff.1 ht
          rw [List.drop_eq_getElem_cons hh, e]
        rw [hdrop] at hrw
        obtain ⟨a, b', hP, hrest, hab⟩ := hrw
        obtain ⟨b, o, he, hbl, hcs⟩ := row_at HR.out.2.1 (by rintro rfl; simp at hx)
        cases he
        obtain ⟨m0, m1, m2, m3, m4, m5, m6, m7, m8⟩ := hcs i x hx
        have n0 := (hb'.cell hbl).trans m0
        have n1 := (hb'.cell hbl).trans m1
        have n2 := (hb'.cell hbl).trans m2
        have n3 := (hb'.cell hbl).trans m3
        have n4 := (hb'.cell hbl).trans m4
        have n5 := (hb'.cell hbl).trans m5
        have n6 := (hb'.cell hbl).trans m6
        have n7 := (hb'.cell hbl).trans m7
        have n8 := (hb'.cell hbl).trans m8
        have hle : s + a ≤ 1000000 := by have := HG.out; omega
        have hcall := hP (by omega) S wr x ((HR.out.2.2 i t x ht hx).stays hb')
        rw [NV.v_eq] at hcall
        have HC := Lib.hid hcall
        have HRE := Lib.hid hrest
        have HBR := Lib.hid hbr
        have HS := Lib.hid (show s + a + b' = M by omega)
        have hadd : IntKind.i64.wrap ((s : Int) + (a : Int)) = ((s + a : Nat) : Int) := by rw [IntWalk.i64_in _ (by omega)]; omega
        obtain ⟨q, hq⟩ : ∃ q, q = s + a := ⟨_, rfl⟩
        rw [← hq] at hadd
        have HQ := Lib.hid hq
        have hiI : (i : Int) < (N : Int) := by omega
        have hi0 : (0 : Int) ≤ (i : Int) := by omega
        have hi4 : i < 4096 := by omega
        clear hcall hrest hbr hP hcs m0 m1 m2 m3 m4 m5 m6 m7 m8 hb' hdrop ht hx hsum hab hle hq
        go_wp2_with fail
        go_at_call 20
        with_reducible refine HC.out.mono ?_
        rintro e w5 ⟨rfl, hb5⟩
        have HB5 := Lib.hid hb5
        clear hb5
        go_wp2_with fail
        go_roundw
        case rel => exact ⟨i + 1, q, b', by go_num, by first | rfl | rw [hadd], by have := HN.out; omega, HRE.out, by rw [HQ.out]; exact HS.out, HBR.out.trans (HB5.out.mono (by have := HBR.out.size; rw [World.size_alloc] at this; exact this))⟩
        case measure => have := HN.out; simp [intOf]; omega
      · have he : i = N := by rw [← HN.out] at hi'; omega
        subst he
        have hiI : ¬ (i : Int) < (i : Int) := by omega
        have hg : s = M := by
          rw [HN.out, List.drop_length] at hrw
          have : r = 0 := hrw
          omega
        subst hg
        have HB := Lib.hid hb'
        clear hbr hb' hrw hsum
        go_wp2_with fail
        go_ret
        exact ⟨rfl, HB.out⟩
theorem groups_is : ∀ {t : PN} {n : Nat}, Grpd t n → WalkG t n := by
  intro t n h
  refine Grpd.rec (motive_1 := fun t n _ => WalkG t n) (motive_2 := fun l n _ => GrpW WalkG l n) ?_ ?_ ?_ h
  · intro k T lo hi num kids n h4 _ ih hg' S w y hy
    cases hy with
    | mk xs hl hc hr hkk => exact groups_one h4 ih hg' hl hr hkk
  · rfl
  · intro t r a b _ _ h1 h2
    exact ⟨a, b, h1, h2, rfl⟩
end Go.Proofs.YtcbgbicdfpkikaaGreatDoor
