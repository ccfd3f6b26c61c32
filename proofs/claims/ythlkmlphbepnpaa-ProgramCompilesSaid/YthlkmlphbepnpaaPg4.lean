/-
  Package program's closeBraces: each brace's jump to the one that closes it, or the brace that is wrong. Condition: at most a million commands.
-/
import Derived.Test.YthlkmlphbepnpaaPg3
namespace Go.Proofs.Ythlkmlphbepnpaa
open Go.RowKit Go.Deep

set_option maxRecDepth 100000 in
theorem pop_run {g n n1 c : Nat} (h : n < c) (W : World) : (Instr.slice 38 (.slice (some ⟨g, 0, none⟩) n1 c) none (some (.int .i64 (n : Int))) none).run Try.prog W = .ok (.slice (some ⟨g, 0, none⟩) n c) W := by
  rw [run_slice_h (P := Try.prog) (w := W) 38 _ n1 c Try.underlying38 .i64 (n : Int) (by omega) (by omega), elem_int.size, Result.andThen_ok, Int.toNat_natCast]
  unfold sliced
  rw [if_neg (by omega), Option.map_some, Addr.add_mid, Nat.sub_zero, Nat.sub_zero, Nat.zero_mul]
def wrongV : Option Nat → Int
  | none => -1
  | some i => (i : Int)
def topO : List Nat → Option Nat
  | [] => none
  | b :: _ => some b
theorem topV_eq (s : List Nat) : topV s = wrongV (topO s) := by cases s <;> rfl
/-- What closing the braces answers, and what it leaves. -/
def CBAns (N : Nat → Int) (n gj : Nat) (w : World) (e : Ending) (w' : World) : Prop := ∃ r J, CB N n r ∧ e = .returned (.int .i64 (wrongV r)) ∧ Turned (fun k => k = gj) w w' ∧ JAt w' gj n J ∧ (r = none → JB N n J)
/-- What holds where a round begins. -/
structure CBJ (l : List CM) (gj : Nat) (w wr : World) (m : Nat) (s : List Nat) (J : Nat → Int) (v : Value) : Prop where
  le : m ≤ l.length
  st : stk (cN l) m = some s
  jb : JB (cN l) m J
  jat : JAt wr gj l.length J
  own : StkOwn wr w.heap.size v s
  turned : Turned (fun k => k = gj) w wr
theorem few_below : ∀ (s : List Nat) (n : Nat), s.Pairwise (· > ·) → (∀ b ∈ s, b < n) → s.length ≤ n := by
  intro s
  induction s with
  | nil => intro n _ _; exact Nat.zero_le _
  | cons a t ih =>
    intro n hp hb
    have ha := hb a (List.mem_cons_self ..)
    have := ih a (List.pairwise_cons.1 hp).2 fun b hb2 => (List.pairwise_cons.1 hp).1 b hb2
    simp only [List.length_cons]
    omega
theorem CBJ.short {l : List CM} {gj : Nat} {w wr : World} {m : Nat} {s : List Nat} {J : Nat → Int} {v : Value} (h : CBJ l gj w wr m s J v) : s.length ≤ l.length := by
  have h1 := stk_mem h.st
  exact Nat.le_trans (few_below s m h1.1 fun b hb => (h1.2 b hb).1) h.le
theorem CBJ.elem {l : List CM} {gj : Nat} {A : Option Addr} {w wr : World} {m : Nat} {s : List Nat} {J : Nat → Int} {v : Value} (h : CBJ l gj w wr m s J v) (hr : RawOff (fun k => k = gj) w A (cmV l)) {c : CM} (hc : l[m]? = some c) : ∃ g o, A = some ⟨g, o, none⟩ ∧ wr.cell? ⟨g, o + m * 42 + 1, none⟩ = some (.int .u8 c.name) := by
  obtain ⟨g, o, e, _, hr⟩ := off_elem CM.len (by omega) (hr.turned h.turned) hc
  exact ⟨g, o, e, hr 1 _ rfl⟩
theorem CBJ.other {l : List CM} {gj : Nat} {w wr : World} {m : Nat} {s : List Nat} {J : Nat → Int} {v : Value} (h : CBJ l gj w wr m s J v) {c : CM} (hc : l[m]? = some c) (h1 : c.name ≠ 123) (h2 : c.name ≠ 125) : CBJ l gj w wr (m + 1) s J v := by
  have hn := cN_at hc
  have hlt := (List.getElem?_eq_some_iff.1 hc).1
  exact ⟨hlt, stk_other h.st (by rw [hn]; exact h1) (by rw [hn]; exact h2), h.jb.skip (by rw [hn]; exact h2), h.jat, h.own, h.turned⟩
theorem CBJ.opened {l : List CM} {gj : Nat} {w wr w' : World} {m : Nat} {s : List Nat} {J : Nat → Int} {v v' : Value} (h : CBJ l gj w wr m s J v) {c : CM} (hc : l[m]? = some c) (h1 : c.name = 123) (hg : gj < w.heap.size)
    (hown : StkOwn w' w.heap.size v' (m :: s)) (ht : Turned (fun j => v.ownBlock = some j) wr w') : CBJ l gj w w' (m + 1) (m :: s) J v' := by
  have hn := cN_at hc
  have hlt := (List.getElem?_eq_some_iff.1 hc).1
  have hv : ∀ j, v.ownBlock = some j → w.heap.size ≤ j := fun j hj => (World.ownsRow.lt h.own j hj).1
  have htw : Turned (fun k => k = gj) w w' := h.turned.trans ht fun i hi hs => by have := hv i hs; omega
  exact ⟨hlt, stk_open h.st (by rw [hn]; exact h1), h.jb.skip (by rw [hn, h1]; omega), ht.obj h.jat fun hs => by have := hv _ hs; omega, hown, htw⟩
theorem CBJ.shut {l : List CM} {gj : Nat} {w wr : World} {m b g cp : Nat} {s : List Nat} {J : Nat → Int} (h : CBJ l gj w wr m (b :: s) J (.slice (some ⟨g, 0, none⟩) (s.length + 1) cp)) {c : CM} (hc : l[m]? = some c) (h1 : c.name = 125) (hg : gj < w.heap.size) :
    CBJ l gj w (wr.setCell ⟨gj, b, none⟩ (.int .i64 (m : Int))) (m + 1) s (fun x => if x = b then (m : Int) else J x) (.slice (some ⟨g, 0, none⟩) s.length cp) := by
  have hn := cN_at hc
  have hlt := (List.getElem?_eq_some_iff.1 hc).1
  exact ⟨hlt, stk_shut h.st (by rw [hn]; exact h1), h.jb.shut ⟨by rw [hn]; exact h1, s, h.st⟩, h.jat.put b m, own_set h.own.pop _ _ hg, turned_set h.turned _ _ rfl⟩
theorem CBJ.start {l : List CM} {gj : Nat} {w : World} (h : JAt w gj l.length fun _ => 0) : CBJ l gj w w 0 [] (fun _ => 0) (.slice none 0 0) := ⟨Nat.zero_le _, rfl, JB.zero _, h, StkOwn.nil w _, Turned.refl _ w⟩
set_option maxRecDepth 100000 in
set_option maxHeartbeats 4000000 in
theorem braces_is {l : List CM} {gj cj cl : Nat} {A : Option Addr} {w : World} (hj : JAt w gj l.length fun _ => 0) (hr : RawOff (fun k => k = gj) w A (cmV l)) (hl : l.length ≤ 1048576) :
    Calls Try.prog 18 #[.slice (some ⟨gj, 0, none⟩) l.length cj, .slice A l.length cl] w (CBAns (cN l) l.length gj w) := by
  have HG := Lib.hid (lt_of_some hj)
  have HS := Lib.hid (CBJ.start hj)
  have HR := Lib.hid hr
  have HL := Lib.hid hl
  clear hj hr hl
  unfold CBAns
  go_enter Try.func18, Try.ntmps18
  go_wp2_with fail
  refine wp_scope_again 0 (fun a' w' => ∃ (m : Nat) (s : List Nat) (J : Nat → Int) (v : Value), Hid (CBJ l gj w w' m s J v) ∧ ∃ u : Nat → Value, a' = { tmps := #[.slice (some ⟨gj, 0, none⟩) l.length cj, .slice A l.length cl, undef, undef, .int .i64 0, v, .int .i64 (m : Int), u 7, u 8, u 9, u 10, u 11, u 12, u 13, u 14, u 15, u 16, u 17, u 18, u 19, u 20, u 21, u 22, u 23, u 24, u 25, u 26, u 27, u 28, u 29, u 30, u 31, u 32, u 33, u 34, u 35, u 36, u 37, u 38, u 39, u 40, u 41, u 42], defers := [] }) (fun a' _ => l.length - (intOf (a'.tmps.getD 6 undef)).toNat) rfl ?_ ?_
  · intro hp
    have HP := Lib.hid hp
    clear hp
    go_wp2_with fail
    go_step3
    simp only [Exit.then]
    rename_i hK
    exact hK _ _ (HP.out _ _ ⟨0, [], _, _, HS, actF (by kernel_rfl)⟩)
  · rintro a' wr ⟨m, s, J, v, HJ, u, rfl⟩
    have hle := HJ.out.le
    by_cases hm : m = l.length
    · have gm : ((m : Int) == (l.length : Int)) = true := by rw [hm, beq_self_eq_true]
      have gn : (m == l.length) = true := by rw [hm, beq_self_eq_true]
      have HT := Lib.hid (top_is HJ.out.own (by have := HJ.out.short; have := HL.out; omega))
      have HE := Lib.hid (show CB (cN l) l.length (topO s) by
        have h := HJ.out.st
        rw [hm] at h
        cases s with
        | nil => exact .ok h
        | cons b t => exact .left b t h)
      have HV := Lib.hid (topV_eq s)
      have HJB := Lib.hid (show JB (cN l) l.length J by have := HJ.out.jb; rw [hm] at this; exact this)
      clear hm hle
      go_wp2_with fail
      go_at_call 28
      with_reducible refine HT.out.mono ?_
      rintro e w1 ⟨rfl, rfl⟩
      go_wp2_with fail
      simp only [Exit.jump]
      go_ret
      exact ⟨_, J, HE.out, by rw [HV.out]; rfl, HJ.out.turned, HJ.out.jat, fun _ => HJB.out⟩
    · have hlt : m < l.length := by omega
      obtain ⟨c, hc⟩ : ∃ c, l[m]? = some c := ⟨l[m], by simp [hlt]⟩
      obtain ⟨g, o, rfl, hcell⟩ := HJ.out.elem HR.out hc
      have gm : ((m : Int) == (l.length : Int)) = false := by rw [beq_eq_false_iff_ne]; omega
      have gn : (m == l.length) = false := by rw [beq_eq_false_iff_ne]; omega
      have hli : (m : Int) < (l.length : Int) := by omega
      have hml : m ≤ 1048576 := by have := HL.out; omega
      have hadd : IntKind.i64.wrap ((m : Int) + 1) = ((m + 1 : Nat) : Int) := by rw [IntWalk.i64_in _ (by omega)]; omega
      obtain ⟨m1, hm1⟩ : ∃ m1, m1 = m + 1 := ⟨_, rfl⟩
      rw [← hm1] at hadd
      have HM := Lib.hid hm1
      have HC := Lib.hid hc
      have HME : Hid (l.length - (intOf (.int .i64 (m1 : Int))).toNat < l.length - (intOf (.int .i64 (m : Int))).toNat) := Lib.hid (by simp [intOf]; omega)
      by_cases h1 : c.name = 123
      · have HN := Lib.hid h1
        have g1 : ((c.name : Int) == 123) = true := by rw [h1]; rfl
        have HB := Lib.hid (bW wr (.cells #[.int .i64 (m : Int)] 3))
        have HV := Lib.hid (show (wr.alloc (.cells #[.int .i64 (m : Int)] 3)).ownsRow w.heap.size 3 1 v s.length (s.reverse.map intV) from ownsRow_turned HJ.out.own (Turned.of_below (S := fun _ => False) HB.out) (fun _ _ h => h))
        have HRW := Lib.hid (show RawAt (wr.alloc (.cells #[.int .i64 (m : Int)] 3)) (some ⟨wr.heap.size, 0, none⟩) [intV m] from raw_new wr [intV m] 3)
        have HNN := Lib.hid (show s.length + 1 ≤ 1099511627776 ∧ w.heap.size ≤ (wr.alloc (.cells #[.int .i64 (m : Int)] 3)).heap.size by
          have h1 := HJ.out.short
          have h2 := HL.out
          have h3 := HJ.out.turned.size
          rw [World.size_alloc]
          omega)
        clear hle hlt hc hm hm1 h1
        go_wp2_with (refine wpList_append_raw 24 [intV m] elem_int HV.out HRW.out rfl (by simp [intV, Value.oneCell']) rfl rfl HNN.out.1 HNN.out.2 ?_)
        intro v' w' hv' ht hk
        have HF := Lib.hid (show CBJ l gj w w' m1 (m :: s) J v' by
          rw [HM.out]
          refine HJ.out.opened HC.out HN.out HG.out ?_ ((Turned.of_below HB.out).trans ht (fun _ _ h => h))
          show w'.ownsRow _ _ _ _ (s.length + 1) _
          rw [List.reverse_cons, List.map_append]
          exact hv')
        clear hv' ht hk
        go_wp2_with fail
        go_step3
        exact ⟨rfl, ⟨m1, _, _, _, HF, actF (by kernel_rfl)⟩, HME.out⟩
      · by_cases h2 : c.name = 125
        · have HN := Lib.hid h2
          have g1 : ((c.name : Int) == 123) = false := by rw [beq_eq_false_iff_ne]; exact h1
          have g2 : ((c.name : Int) == 125) = true := by rw [h2]; rfl
          have HT := Lib.hid (top_is HJ.out.own (by have := HJ.out.short; have := HL.out; omega))
          cases s with
          | nil =>
            have HE := Lib.hid (show CB (cN l) l.length (some m) from .bad m hlt (by rw [cN_at hc]; exact h2) HJ.out.st)
            have HJJ := Lib.hid (And.intro HJ.out.turned HJ.out.jat)
            clear hle hlt hc hm hm1 h1 h2
            unfold topV at HT
            go_wp2_with fail
            go_at_call 28
            with_reducible refine HT.out.mono ?_
            rintro e w1 ⟨rfl, rfl⟩
            go_wp2_with fail
            simp only [Exit.jump]
            go_ret
            exact ⟨some m, J, HE.out, rfl, HJJ.out.1, HJJ.out.2, fun h => by cases h⟩
          | cons b t =>
            obtain ⟨g5, c5, hv5, _, hc5⟩ := HJ.out.own.top
            subst hv5
            have hb := ((stk_mem HJ.out.st).2 b (List.mem_cons_self ..)).1
            obtain ⟨j1, j2⟩ := HJ.out.jat.cell (i := b) (by omega)
            have HF := Lib.hid (show CBJ l gj w (wr.setCell ⟨gj, b, none⟩ (.int .i64 (m : Int))) m1 t (fun x => if x = b then (m : Int) else J x) (.slice (some ⟨g5, 0, none⟩) t.length c5) by
              rw [HM.out]
              exact HJ.out.shut HC.out HN.out HG.out)
            have HPR := Lib.hid (pop_run (g := g5) (n := t.length) (n1 := t.length + 1) (c := c5) (by omega))
            have gb : ((b : Int) == -1) = false := by rw [beq_eq_false_iff_ne]; omega
            have gbl : (b : Int) < (l.length : Int) := by omega
            have gbn : b < l.length := by omega
            have hsub : IntKind.i64.wrap (((t.length + 1 : Nat) : Int) - 1) = (t.length : Int) := by
              have h3 := HJ.out.short
              have h4 := HL.out
              simp only [List.length_cons] at h3
              rw [IntWalk.i64_in _ (by omega)]; omega
            obtain ⟨n5, hn5⟩ : ∃ n5, n5 = t.length := ⟨_, rfl⟩
            obtain ⟨n6, hn6⟩ : ∃ n6, n6 = t.length + 1 := ⟨_, rfl⟩
            rw [← hn6] at HPR hsub HJ HT ⊢
            rw [← hn5] at HF HPR hsub
            have hpr := HPR.out
            clear hle hlt hc hm hm1 h1 h2 hb hn5 hn6 hc5
            unfold topV at HT
            go_wp2_with fail
            go_at_call 28
            with_reducible refine HT.out.mono ?_
            rintro e w1 ⟨rfl, rfl⟩
            go_wp2_with fail
            go_step3
            exact ⟨rfl, ⟨m1, _, _, _, HF, actF (by kernel_rfl)⟩, HME.out⟩
        · have g1 : ((c.name : Int) == 123) = false := by rw [beq_eq_false_iff_ne]; exact h1
          have g2 : ((c.name : Int) == 125) = false := by rw [beq_eq_false_iff_ne]; exact h2
          have HF := Lib.hid (show CBJ l gj w wr m1 s J v by rw [HM.out]; exact HJ.out.other hc h1 h2)
          clear hle hlt hc hm hm1 h1 h2
          go_wp2_with fail
          go_step3
          exact ⟨rfl, ⟨m1, _, _, _, HF, actF (by kernel_rfl)⟩, HME.out⟩
end Go.Proofs.Ythlkmlphbepnpaa
