/-
  pattern.Parse. Conditions: Bracket's answers are told by a function of the text; the world holds what strings.Index asks.
-/
import Derived.Test.YtbehbbmhkkidfaaPalt
namespace Go.Proofs.Ytbehbbmhkkidfaa
open Go.RowKit Go.Deep

theorem toksF_len {bk : BkF} {ext : Bool} : ∀ (k : Nat) (ah : Int) (l : List UInt8) (ts : List Tok), toksF bk ext k ah l = some ts → ts.length ≤ k
  | 0, ah, [], ts, h => by simp [toksF] at h; subst h; simp
  | 0, ah, c :: r, ts, h => by simp [toksF] at h
  | k + 1, ah, [], ts, h => by simp [toksF] at h; subst h; simp
  | k + 1, ah, c :: r, ts, h => by
    simp only [toksF] at h
    split at h
    · cases h
    · obtain ⟨us, hu, rfl⟩ := Option.map_eq_some_iff.1 h
      have := toksF_len k _ _ us hu
      simp only [List.length_cons]
      omega
theorem pars_new {w : World} {A : Option Addr} {ts : List Tok} {c : Nat} (hr : RawAt w A (tsV ts)) (hc : ts.length ≤ c) : ParsAt (w.alloc (.cells #[.slice A ts.length c, .int .i64 0] 49)) w.heap.size ts 0 := by
  refine ⟨A, c, ⟨by simp [go_sem], by simp [go_sem]⟩, ⟨by simp [go_sem], by simp [go_sem]⟩, hc, ?_⟩
  have h2 := hr.below (bA w (.cells #[.slice A ts.length c, .int .i64 0] 49))
  rcases hr with hr | ⟨g, o, e, hr⟩
  · exact .inl hr
  · match hts : tsV ts with
    | [] => exact .inl rfl
    | v :: r =>
      rw [hts] at hr h2
      have hg : g < w.heap.size := World.block_lt_of_cell? w _ (hr 0 v rfl)
      rcases h2 with h2 | ⟨g', o', e', hr'⟩
      · cases h2
      · rw [e] at e'
        cases e'
        exact .inr ⟨g, o, e, fun h => by omega, hr'⟩
theorem parse_cases {bk : BkF} {ext : Bool} {l : List UInt8} {R : Option PN} (eR : R = parseP bk ext l) (hz : ¬ 200 < l.length) : (toksF bk ext 200 4 l = none → R = none) ∧ ∀ ts, toksF bk ext 200 4 l = some ts → (altP 1001 [] ts 0 = none → R = none) ∧ ∀ n r g, altP 1001 [] ts 0 = some (n, r, g) → R = if headK r = 0 then some n else none := by
  subst eR
  unfold parseP
  rw [if_neg hz]
  refine ⟨fun h => by rw [h], fun ts h => ⟨fun h2 => by simp only [h, h2], fun n r g h2 => by simp only [h, h2]⟩⟩
/-- What Parse answers. -/
def ParseAns (x : Option PN) (w : World) (e : Ending) (w' : World) : Prop := match x with
  | none => e = .returned (.tuple #[.agg #[.int .i64 0, .int .u64 0, .int .u64 0, .int .u64 0, .int .u64 0, .int .i64 0, .int .i64 0, .int .i64 0, .slice none 0 0], .int .i64 91]) ∧ Below w.heap.size w w'
  | some n => ∃ y : NV, e = .returned (.tuple #[y.v, .int .i64 0]) ∧ IsP (· < w.heap.size) w' n y ∧ Below w.heap.size w w'
theorem ParseAns.bad {x : Option PN} {w w' : World} (hx : x = none) (hb : Below w.heap.size w w') : ParseAns x w (.returned (.tuple #[.agg #[.int .i64 0, .int .u64 0, .int .u64 0, .int .u64 0, .int .u64 0, .int .i64 0, .int .i64 0, .int .i64 0, .slice none 0 0], .int .i64 91])) w' := by
  subst hx
  exact ⟨rfl, hb⟩
theorem ParseAns.good {x : Option PN} {w w' : World} {n : PN} (hx : x = some n) (y : NV) (hy : IsP (· < w.heap.size) w' n y) (hb : Below w.heap.size w w') : ParseAns x w (.returned (.tuple #[y.v, .int .i64 0])) w' := by
  subst hx
  exact ⟨y, rfl, hy, hb⟩
theorem below_out9 {w w2 : World} (hb : Below w.heap.size w w2) (v0 v1 v2 v3 v4 v5 v6 v7 v8 : Value) : Below w.heap.size w (((((((((w2.setCell ⟨w.heap.size, 0, none⟩ v0).setCell ⟨w.heap.size, 1, none⟩ v1).setCell ⟨w.heap.size, 2, none⟩ v2).setCell ⟨w.heap.size, 3, none⟩ v3).setCell ⟨w.heap.size, 4, none⟩ v4).setCell ⟨w.heap.size, 5, none⟩ v5).setCell ⟨w.heap.size, 6, none⟩ v6).setCell ⟨w.heap.size, 7, none⟩ v7).setCell ⟨w.heap.size, 8, none⟩ v8) :=
  ((((((((hb.setCell (Nat.le_refl _) _).setCell (Nat.le_refl _) _).setCell (Nat.le_refl _) _).setCell (Nat.le_refl _) _).setCell (Nat.le_refl _) _).setCell (Nat.le_refl _) _).setCell (Nat.le_refl _) _).setCell (Nat.le_refl _) _).setCell (Nat.le_refl _) _
set_option maxRecDepth 100000 in
set_option maxHeartbeats 1000000 in
theorem parse_is {bk : BkF} (hbk : BkIs bk) (s : ByteArray) (ext : Bool) (w : World) (hM : MaxAt w) : Calls Try.prog 8 #[.string s, .bool ext] w (ParseAns (parseP bk ext s.data.toList) w) := by
  obtain ⟨R, eR⟩ : ∃ R, R = parseP bk ext s.data.toList := ⟨_, rfl⟩
  rw [← eR]
  have HLEN : s.data.toList.length = s.size := by simp
  by_cases hz : 200 < s.size
  · have hR : R = none := by rw [eR, parseP, if_pos (by rw [HLEN]; exact hz)]
    have HR := Lib.hid hR
    have d : decide ((s.size : Int) > 200) = true := decide_eq_true (by omega)
    clear hR eR HLEN hz
    go_enter Try.func8, Try.ntmps8
    go_wp2_with fail
    refine bodyPost_ret (v := .tuple #[.agg #[.int .i64 0, .int .u64 0, .int .u64 0, .int .u64 0, .int .u64 0, .int .i64 0, .int .i64 0, .int .i64 0, .slice none 0 0], .int .i64 91]) (by simp [results, Try.results8, go_sem]) rfl ?_
    exact ParseAns.bad HR.out (bA w _)
  · have HR := Lib.hid (parse_cases eR (by rw [HLEN]; exact hz))
    have d : decide ((s.size : Int) > 200) = false := decide_eq_false (by omega)
    have HT := Lib.hid (tokens_is hbk s ext 200 (by omega) (by omega) (w.alloc (.cells #[.int .i64 0, .int .u64 0, .int .u64 0, .int .u64 0, .int .u64 0, .int .i64 0, .int .i64 0, .int .i64 0, .slice none 0 0] 30)) (hM.below (bA w _)))
    obtain ⟨o, eo⟩ : ∃ o, o = toksF bk ext 200 4 s.data.toList := ⟨_, rfl⟩
    have HTL := Lib.hid (show ∀ ts, o = some ts → ts.length ≤ 200 from fun ts h => toksF_len 200 4 _ ts (eo ▸ h))
    rw [← eo] at HT HR
    clear eR HLEN hz eo hM hbk
    go_enter Try.func8, Try.ntmps8
    go_wp2_with fail
    go_at_call 15
    refine HT.out.mono ?_
    intro e w1 hans
    clear HT
    cases ho : o with
    | none =>
      rw [ho] at hans
      obtain ⟨rfl, hb1⟩ := hans
      obtain ⟨⟨c0, c1, c2, c3, c4, c5, c6, c7, c8⟩, f0, f1, f2, f3, f4, f5, f6, f7, f8⟩ := box9 (Below.obj hb1 (new_obj w _) (by rw [World.size_alloc]; omega))
      have l1 : w.heap.size < w1.heap.size := by have := hb1.size; rw [World.size_alloc] at this; omega
      have HB := Lib.hid ((bA w _).trans (hb1.mono (by rw [World.size_alloc]; omega)))
      have HE := Lib.hid (HR.out.1 ho)
      clear hb1 HR ho
      go_wp2_with fail
      refine bodyPost_ret (v := .tuple #[.agg #[.int .i64 0, .int .u64 0, .int .u64 0, .int .u64 0, .int .u64 0, .int .i64 0, .int .i64 0, .int .i64 0, .slice none 0 0], .int .i64 91]) (by simp [results, Try.results8, go_sem, c0, c1, c2, c3, c4, c5, c6, c7, c8]) rfl ?_
      exact ParseAns.bad HE.out (below_out9 HB.out (.int .i64 0) (.int .u64 0) (.int .u64 0) (.int .u64 0) (.int .u64 0) (.int .i64 0) (.int .i64 0) (.int .i64 0) (.slice none 0 0))
    | some ts =>
      rw [ho] at hans
      obtain ⟨A, c, rfl, hc, hr, hb1⟩ := hans
      have HO1 := Lib.hid (Below.obj hb1 (new_obj w _) (by rw [World.size_alloc]; omega))
      have l1 : w.heap.size < w1.heap.size := by have := hb1.size; rw [World.size_alloc] at this; omega
      have HB := Lib.hid ((bA w _).trans (hb1.mono (by rw [World.size_alloc]; omega)))
      have HP := Lib.hid (pars_new hr hc)
      have HTS := Lib.hid (HTL.out ts ho)
      clear hb1 hc hr HTL
      go_wp2_with fail
      go_at_call 16
      refine ((parser_ok 1001).2.2.1 _ w1.heap.size ts 0 HP.out (by have := HTS.out; omega) (by have := HTS.out; omega)).mono ?_
      intro e w2 hans
      cases hx : altP 1001 [] ts 0 with
      | none =>
        rw [hx] at hans
        obtain ⟨rfl, hT2⟩ := hans
        obtain ⟨⟨c0, c1, c2, c3, c4, c5, c6, c7, c8⟩, f0, f1, f2, f3, f4, f5, f6, f7, f8⟩ := box9 (hT2.obj (old_obj HO1.out _) (by omega))
        have l2 : w.heap.size < w2.heap.size := by have := hT2.size; rw [World.size_alloc] at this; omega
        have HB2 := Lib.hid ((HB.out.alloc HB.out.size (.cells #[.slice A ts.length c, .int .i64 0] 49)).trans (hT2.below (B := w.heap.size) (by rw [World.size_alloc]; omega) (fun k h => by omega)))
        have HE := Lib.hid ((HR.out.2 ts ho).1 hx)
        clear hT2 HR ho hx
        go_wp2_with fail
        refine bodyPost_ret (v := .tuple #[.agg #[.int .i64 0, .int .u64 0, .int .u64 0, .int .u64 0, .int .u64 0, .int .i64 0, .int .i64 0, .int .i64 0, .slice none 0 0], .int .i64 91]) (by simp [results, Try.results8, go_sem, c0, c1, c2, c3, c4, c5, c6, c7, c8, l2]) rfl ?_
        exact ParseAns.bad HE.out ((below_out9 HB2.out (.int .i64 0) (.int .u64 0) (.int .u64 0) (.int .u64 0) (.int .u64 0) (.int .i64 0) (.int .i64 0) (.int .i64 0) (.slice none 0 0)).alloc (by have := HB2.out.size; simpa using this) _)
      | some x =>
        obtain ⟨n, l1', g1⟩ := x
        rw [hx] at hans
        obtain ⟨y, rfl, hy, hP2, hT2⟩ := hans
        have HO2 := Lib.hid (hT2.obj (old_obj HO1.out _) (by omega))
        have l2 : w.heap.size < w2.heap.size := by have := hT2.size; rw [World.size_alloc] at this; omega
        have HB2 := Lib.hid ((HB.out.alloc HB.out.size (.cells #[.slice A ts.length c, .int .i64 0] 49)).trans (hT2.below (B := w.heap.size) (by rw [World.size_alloc]; omega) (fun k h => by omega)))
        have HR2 := Lib.hid ((HR.out.2 ts ho).2 n l1' g1 hx)
        have HP2 := Lib.hid (And.intro hP2 (show IsP (· < w.heap.size + 1) w2 n y from hy.weaken fun k h => by rw [World.size_alloc]; have : k < w.heap.size + 1 := h; omega))
        clear hT2 HR ho hx hP2 hy
        rw [NV.v_eq]
        go_wp2_with fail
        go_at_call 17
        refine (next_is (HP2.out.1.below (bA _ _))).mono ?_
        rintro e w3 ⟨rfl, rfl⟩
        obtain ⟨⟨c0, c1, c2, c3, c4, c5, c6, c7, c8⟩, f0, f1, f2, f3, f4, f5, f6, f7, f8⟩ := box9 (HO2.out)
        clear HO2
        obtain ⟨q, hq⟩ : ∃ q, q = headK l1' := ⟨_, rfl⟩
        rw [← hq] at HR2 ⊢
        clear hq
        by_cases q0 : q = 0
        · have n0 : (q != 0) = false := by simp [q0]
          have HE := Lib.hid (show R = some n by rw [HR2.out, if_pos q0])
          clear q0 HR2
          go_wp2_with fail
          refine bodyPost_ret (v := .tuple #[.agg #[.int .i64 y.kind, .int .u64 (y.set 0), .int .u64 (y.set 1), .int .u64 (y.set 2), .int .u64 (y.set 3), .int .i64 y.lo, .int .i64 y.hi, .int .i64 y.num, .slice y.A y.n y.c], .int .i64 0]) (by simp [results, Try.results8, go_sem, c0, c1, c2, c3, c4, c5, c6, c7, c8, l2]) rfl ?_
          have A2 := (Turned.refl (· = w.heap.size) w2).puts9 (k := w.heap.size) rfl (.int .i64 y.kind) (.int .u64 (y.set 0)) (.int .u64 (y.set 1)) (.int .u64 (y.set 2)) (.int .u64 (y.set 3)) (.int .i64 y.lo) (.int .i64 y.hi) (.int .i64 y.num) (.slice y.A y.n y.c)
          have hB := below_out9 HB2.out (.int .i64 y.kind) (.int .u64 (y.set 0)) (.int .u64 (y.set 1)) (.int .u64 (y.set 2)) (.int .u64 (y.set 3)) (.int .i64 y.lo) (.int .i64 y.hi) (.int .i64 y.num) (.slice y.A y.n y.c)
          exact ParseAns.good HE.out y ((((HP2.out.2.turned_off A2 (fun k _ h => by show k < w.heap.size + 1; omega)).weaken (fun k h => by show k < w.heap.size + 1; omega))).stays (bA _ _)) (hB.alloc hB.size _)
        · have n0 : (q != 0) = true := by simp [q0]
          have HE := Lib.hid (show R = none by rw [HR2.out, if_neg q0])
          clear q0 HR2
          go_wp2_with fail
          refine bodyPost_ret (v := .tuple #[.agg #[.int .i64 0, .int .u64 0, .int .u64 0, .int .u64 0, .int .u64 0, .int .i64 0, .int .i64 0, .int .i64 0, .slice none 0 0], .int .i64 91]) (by simp [results, Try.results8, go_sem, c0, c1, c2, c3, c4, c5, c6, c7, c8, l2]) rfl ?_
          have hB := below_out9 HB2.out (.int .i64 0) (.int .u64 0) (.int .u64 0) (.int .u64 0) (.int .u64 0) (.int .i64 0) (.int .i64 0) (.int .i64 0) (.slice none 0 0)
          exact ParseAns.bad HE.out (hB.alloc hB.size _)
end Go.Proofs.Ytbehbbmhkkidfaa
