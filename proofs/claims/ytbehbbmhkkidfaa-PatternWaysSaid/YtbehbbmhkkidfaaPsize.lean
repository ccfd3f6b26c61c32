/-
  A node of a row in memory; pattern.Size. Conditions: at most 4096 kids each, a million nodes.
-/
import Derived.Test.YtbehbbmhkkidfaaPpars
namespace Go.Proofs.Ytbehbbmhkkidfaa
open Go.RowKit Go.Deep

theorem off_at {S : Nat → Prop} {w : World} {A : Option Addr} {xs : List NV} (h : RawOff S w A (nsV xs)) (h0 : xs ≠ []) : ∃ b o, A = some ⟨b, o, none⟩ ∧ b < w.heap.size ∧ ∀ (i : Nat) (x : NV), xs[i]? = some x →
    (w.cell? ⟨b, o + i * 9, none⟩ = some (.int .i64 x.kind) ∧ w.cell? ⟨b, o + i * 9 + 1, none⟩ = some (.int .u64 (x.set 0)) ∧ w.cell? ⟨b, o + i * 9 + 2, none⟩ = some (.int .u64 (x.set 1)) ∧ w.cell? ⟨b, o + i * 9 + 3, none⟩ = some (.int .u64 (x.set 2)) ∧ w.cell? ⟨b, o + i * 9 + 4, none⟩ = some (.int .u64 (x.set 3)) ∧ w.cell? ⟨b, o + i * 9 + 5, none⟩ = some (.int .i64 x.lo) ∧ w.cell? ⟨b, o + i * 9 + 6, none⟩ = some (.int .i64 x.hi) ∧ w.cell? ⟨b, o + i * 9 + 7, none⟩ = some (.int .i64 x.num) ∧ w.cell? ⟨b, o + i * 9 + 8, none⟩ = some (.slice x.A x.n x.c)) := by
  rcases h with h | ⟨b, o, e, _, hr⟩
  · cases xs with
    | nil => exact absurd rfl h0
    | cons a r => cases h
  · have hb : b < w.heap.size := by
      cases xs with
      | nil => exact absurd rfl h0
      | cons a r => exact World.block_lt_of_cell? w _ (hr 0 _ rfl)
    refine ⟨b, o, e, hb, fun i x hx => ?_⟩
    have hg : ∀ (j : Nat) (v : Value), x.cells[j]? = some v → w.cell? ⟨b, o + i * 9 + j, none⟩ = some v := fun j v hv => by
      rw [Nat.add_assoc]
      exact hr _ _ (nsV_at i x hx j v hv)
    exact ⟨hg 0 _ rfl, hg 1 _ rfl, hg 2 _ rfl, hg 3 _ rfl, hg 4 _ rfl, hg 5 _ rfl, hg 6 _ rfl, hg 7 _ rfl, hg 8 _ rfl⟩
end Go.Proofs.Ytbehbbmhkkidfaa

namespace Go.Proofs.Ytbehbbmhkkidfaa
open Go.RowKit Go.Deep

mutual
/-- A tree of so many nodes. -/
inductive Sized : PN → Nat → Prop
  | mk (k : Int) (T : Nat → Nat) (lo hi num : Int) (kids : List PN) (n : Nat) (h4 : kids.length ≤ 4096) (h : SizedL kids n) : Sized (.mk k T lo hi num kids) (n + 1)
inductive SizedL : List PN → Nat → Prop
  | nil : SizedL [] 0
  | cons {t : PN} {r : List PN} {a b : Nat} (h : Sized t a) (k : SizedL r b) : SizedL (t :: r) (a + b)
end
def SizedW (P : PN → Nat → Prop) : List PN → Nat → Prop
  | [], n => n = 0
  | t :: r, n => ∃ a b, P t a ∧ SizedW P r b ∧ n = a + b
def WalkS (t : PN) (n : Nat) : Prop := n ≤ 1000000 → ∀ (S : Nat → Prop) (w : World) (y : NV), IsP S w t y → Calls Try.prog 14 #[y.v] w fun e w' => e = .returned (.int .i64 (n : Int)) ∧ Below w.heap.size w w'
def SRel (w : World) (kids : List PN) (o : Obj) (n : Nat) (cv iv : Value) (wr : World) : Prop := ∃ i s r : Nat, iv = .int .i64 (i : Int) ∧ cv = .int .i64 (s : Int) ∧ i ≤ kids.length ∧ SizedW WalkS (kids.drop i) r ∧ s + r = n ∧ Below (w.heap.size + 1) (w.alloc o) wr
set_option maxRecDepth 100000 in
set_option maxHeartbeats 1000000 in
theorem size_one {k : Int} {T : Nat → Nat} {lo hi num : Int} {kids : List PN} {n : Nat} (hn4 : kids.length ≤ 4096) (hw : SizedW WalkS kids n) (hg' : n + 1 ≤ 1000000) {S : Nat → Prop} {w : World} {xs : List NV} {A : Option Addr} {c : Nat} (hl : xs.length = kids.length) (hr : RawOff S w A (nsV xs)) (hk : ∀ (i : Nat) (t : PN) (x : NV), kids[i]? = some t → xs[i]? = some x → IsP S w t x) : Calls Try.prog 14 #[.agg #[.int .i64 k, .int .u64 (T 0), .int .u64 (T 1), .int .u64 (T 2), .int .u64 (T 3), .int .i64 lo, .int .i64 hi, .int .i64 num, .slice A kids.length c]] w fun e w' => e = .returned (.int .i64 ((n + 1 : Nat) : Int)) ∧ Below w.heap.size w w' := by
  have HW := Lib.hid hw
  have HR := Lib.hid (And.intro hl (And.intro hr hk))
  obtain ⟨M, hM⟩ : ∃ M, M = n + 1 := ⟨_, rfl⟩
  rw [← hM]
  have HG := Lib.hid (show M ≤ 1000000 by omega)
  have HM := Lib.hid hM
  obtain ⟨N, hN⟩ : ∃ N, N = kids.length := ⟨_, rfl⟩
  have HN := Lib.hid hN
  have hN4 : N ≤ 4096 := by omega
  rw [← hN]
  clear hw hl hr hk hg' hN hn4 hM
  go_enter Try.func14, Try.ntmps14
  go_wp2_with fail
  go_loopw [3, 9] (fun cv iv wr => SRel w kids (.cells #[.int .i64 k, .int .u64 (T 0), .int .u64 (T 1), .int .u64 (T 2), .int .u64 (T 3), .int .i64 lo, .int .i64 hi, .int .i64 num, .slice A N c] 30) M cv iv wr) (fun _ iv _ => kids.length - (intOf iv).toNat)
  case atStart => exact ⟨0, 1, n, rfl, rfl, Nat.zero_le _, HW.out, by have := HM.out; omega, Below.refl _ _⟩
  case round =>
    obtain ⟨i, s, r, rfl, rfl, hi', hrw, hsum, hbr⟩ := hrel
    have hb' := (bA w _).trans (hbr.mono (Nat.le_succ _))
    by_cases hlt : i < N
    · obtain ⟨t, ht⟩ : ∃ t, kids[i]? = some t := ⟨kids[i]'(by rw [← HN.out]; exact hlt), List.getElem?_eq_getElem _⟩
      obtain ⟨x, hx⟩ : ∃ x, xs[i]? = some x := ⟨xs[i]'(by rw [HR.out.1, ← HN.out]; exact hlt), List.getElem?_eq_getElem _⟩
      have hdrop : kids.drop i = t :: kids.drop (i + 1) := by
        obtain ⟨hh, e⟩ := List.getElem?_eq_some_iff.1 ht
        rw [List.drop_eq_getElem_cons hh, e]
      rw [hdrop] at hrw
      obtain ⟨a, b', hP, hrest, hab⟩ := hrw
      obtain ⟨b, o, he, hbl, hcs⟩ := off_at HR.out.2.1 (by rintro rfl; simp at hx)
      cases he
      obtain ⟨m0, m1, m2, m3, m4, m5, m6, m7, m8⟩ := hcs i x hx
      have n0 := (hb'.cell hbl).trans m0
      have n1 := (hb'.cell hbl).trans m1
      have n2 := (hb'.cell hbl).trans m2
      have n3 := (hb'.cell hbl).trans m3
      have n4 := (hb'.cell hbl).trans m4
      have n5 := (hb'.cell hbl).trans m5
      have n6 := (hb'.cell hbl).trans m6
      have n7 := (hb'.cell hbl).trans m7
      have n8 := (hb'.cell hbl).trans m8
      have hle : s + a ≤ 1000000 := by have := HG.out; omega
      have hcall := fun (W : World) (hW : Below wr.heap.size wr W) => hP (by omega) S W x (((HR.out.2.2 i t x ht hx).stays hb').stays hW)
      rw [NV.v_eq] at hcall
      have HC := Lib.hid hcall
      have HRE := Lib.hid hrest
      have HBR := Lib.hid hbr
      have HS := Lib.hid (show s + a + b' = M by omega)
      have hwr : wrap64 ((s : Int) + (a : Int)) = ((s + a : Nat) : Int) := by rw [IntWalk.wrap64_in _ (by omega)]; omega
      obtain ⟨q, hq⟩ : ∃ q, q = s + a := ⟨_, rfl⟩
      rw [← hq] at hwr
      have HQ := Lib.hid hq
      have hiI : (i : Int) < (N : Int) := by omega
      have hi0 : (0 : Int) ≤ (i : Int) := by omega
      have hi4 : i < 4096 := by omega
      clear hcall hrest hbr hP hcs m0 m1 m2 m3 m4 m5 m6 m7 m8 hb' hdrop ht hx hsum hab hle hq
      go_wp2_with fail
      go_at_call 14
      refine (HC.out _ (bA wr _)).mono ?_
      rintro e w5 ⟨rfl, hb5⟩
      have HB5 := Lib.hid ((bA wr _).trans (hb5.mono (by rw [World.size_alloc]; omega)))
      clear hb5
      go_wp2_with fail
      go_roundw
      case rel => exact ⟨i + 1, q, b', by go_num, by first | rfl | rw [hwr], by have := HN.out; omega, HRE.out, by rw [HQ.out]; exact HS.out, HBR.out.trans (HB5.out.mono (by have := HBR.out.size; rw [World.size_alloc] at this; exact this))⟩
      case measure => have := HN.out; simp [intOf]; omega
    · have he : i = N := by rw [← HN.out] at hi'; omega
      subst he
      have hiI : ¬ (i : Int) < (i : Int) := by omega
      have hg : s = M := by
        rw [HN.out, List.drop_length] at hrw
        have : r = 0 := hrw
        omega
      subst hg
      have HB := Lib.hid hb'
      clear hbr hb' hrw hsum
      go_wp2_with fail
      go_ret
      exact ⟨rfl, HB.out⟩
theorem size_is : ∀ {t : PN} {n : Nat}, Sized t n → WalkS t n := by
  intro t n h
  refine Sized.rec (motive_1 := fun t n _ => WalkS t n) (motive_2 := fun l n _ => SizedW WalkS l n) ?_ ?_ ?_ h
  · intro k T lo hi num kids n h4 _ ih hg' S w y hy
    cases hy with
    | mk xs hl hc hr hkk => exact size_one h4 ih hg' hl hr hkk
  · rfl
  · intro t r a b _ _ h1 h2
    exact ⟨a, b, h1, h2, rfl⟩
end Go.Proofs.Ytbehbbmhkkidfaa
