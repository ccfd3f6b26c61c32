/-
  The parser's alternatives, its rows' answers given; and all of the parser. Conditions: at most 4096 tokens and groups.
-/
import Derived.Test.YtbehbbmhkkidfaaPgr
namespace Go.Proofs.Ytbehbbmhkkidfaa
open Go.RowKit Go.Deep

theorem alt_step {f : Nat} {acc : List PN} {l : List Tok} {g : Nat} {R : Option (PN × List Tok × Nat)} (h : altP (f + 1) acc l g = R) : (rowP f [] l g = none → R = none) ∧ ∀ n l1 g1, rowP f [] l g = some (n, l1, g1) → (if headK l1 = 6 then altP f (acc ++ [n]) (l1.drop 1) g1 else some (joinK 3 (acc ++ [n]), l1, g1)) = R :=
  ⟨fun hn => by rw [← h]; simp only [altP, hn], fun n l1 g1 hs => by rw [← h]; simp only [altP, hs]⟩
theorem Round.taken {w w1 w2 : World} {pb : Nat} {acc : List PN} {xs : List NV} {l l1 : List Tok} {g : Nat} {v : Value} (h : Round w w1 pb acc xs l g v) (hT : Turned (· = pb) w1 w2) (hp : ParsAt w2 pb l1 g) (hl : l1.length ≤ l.length) : Round w w2 pb acc xs l1 g v := by
  have hlt := h.hl
  have hb := h.b
  refine ⟨h.hl, h.t.trans hT (fun _ _ h => h), Nat.le_trans h.z hT.size, hT.obj h.o (by omega), hp, ownsRow_turned h.r hT (fun k hk e => ?_), h.k.turned (hT.wider fun k _ h => .inl (by rw [h]; omega)), by omega⟩
  have := (h.own k hk).1
  omega
set_option maxRecDepth 100000 in
set_option maxHeartbeats 2000000 in
theorem alt_of {f : Nat} (hp : ∀ k, k ≤ f → RowOk k) : AltOk (f + 1) := by
  intro w pb ts g h hf hb
  have hl := h.lt
  have HP := Lib.hid hp
  have HST := Lib.hid (round_start h hb)
  have HF := Lib.hid hf
  unfold PtrTo
  obtain ⟨R, hR⟩ : ∃ R, R = altP (f + 1) [] ts g := ⟨_, rfl⟩
  rw [← hR]
  have HR0 := Lib.hid hR
  clear h hp hf hb hR
  go_enter Try.func16, Try.ntmps16
  go_wp2_with fail
  refine wp_scope_again 0 (fun a' w' => ∃ (F : Nat) (acc : List PN) (xs : List NV) (l : List Tok) (g' : Nat) (v : Value) (u5 u6 u7 u8 u9 u10 u11 u12 u13 u14 u15 u16 u17 u18 u19 u20 u21 u22 u23 u24 u25 : Value), altP F acc l g' = R ∧ 4 * l.length + 4 ≤ F ∧ F ≤ f + 1 ∧ Round w w' pb acc xs l g' v ∧ a' = { tmps := #[.pointer (some ⟨pb, 0, none⟩), undef, .pointer (some ⟨w.heap.size, 0, none⟩), .bool false, v, u5, u6, u7, u8, u9, u10, u11, u12, u13, u14, u15, u16, u17, u18, u19, u20, u21, u22, u23, u24, u25], defers := [] }) (fun _ w' => lenAt pb w') rfl ?_ ?_
  · intro hq
    have HQ := Lib.hid hq
    clear hq
    go_wp2_with fail
    go_step3
    simp only [Exit.then]
    rename_i hK
    exact hK _ _ (HQ.out _ _ ⟨f + 1, [], [], ts, g, _, _, _, _, _, _, _, _, _, _, _, _, _, _, _, _, _, _, _, _, _, _, HR0.out.symm, HF.out, Nat.le_refl _, HST.out, rfl⟩)
  · rintro a' w1 ⟨F, acc, xs, l, g', v, u5, u6, u7, u8, u9, u10, u11, u12, u13, u14, u15, u16, u17, u18, u19, u20, u21, u22, u23, u24, u25, hR, hF, hFf, hRD, rfl⟩
    obtain ⟨F, rfl⟩ : ∃ F', F = F' + 1 := ⟨F - 1, by omega⟩
    have HRD1 := Lib.hid hRD
    have HR := Lib.hid (alt_step hR)
    have HFB := Lib.hid (And.intro hF hFf)
    have HLA := Lib.hid hRD.p.lenAt
    clear hR hF hFf hRD
    go_wp2_with fail
    go_at_call 21
    refine (HP.out F (by have := HFB.out; omega) w1 pb l g' HRD1.out.p (by have := HFB.out; omega) HRD1.out.b.2).mono ?_
    intro e w2 hans
    cases hx : rowP F [] l g' with
    | none =>
      rw [hx] at hans
      obtain ⟨rfl, hT2⟩ := hans
      obtain ⟨⟨c0, c1, c2, c3, c4, c5, c6, c7, c8⟩, f0, f1, f2, f3, f4, f5, f6, f7, f8⟩ := box9 (hT2.obj HRD1.out.o (by omega))
      have l2 : w.heap.size < w2.heap.size := by have := hT2.size; have := HRD1.out.z; omega
      have HT2 := Lib.hid (HRD1.out.t.trans hT2 (fun _ _ h => h))
      clear hT2
      go_wp2_with fail
      simp only [Exit.jump]
      refine bodyPost_ret (v := .tuple #[.agg #[.int .i64 0, .int .u64 0, .int .u64 0, .int .u64 0, .int .u64 0, .int .i64 0, .int .i64 0, .int .i64 0, .slice none 0 0], .bool false]) (by simp [results, Try.results16, go_sem, c0, c1, c2, c3, c4, c5, c6, c7, c8, l2]) rfl ?_
      refine PAns.bad (HR.out.1 hx) ?_
      obtain ⟨A1, A2⟩ := out9 HT2.out (.int .i64 0) (.int .u64 0) (.int .u64 0) (.int .u64 0) (.int .u64 0) (.int .i64 0) (.int .i64 0) (.int .i64 0) (.slice none 0 0)
      exact A1.then_below ((bA _ _).mono A1.size)
    | some x =>
      obtain ⟨n, l1, g1⟩ := x
      rw [hx] at hans
      obtain ⟨y, rfl, hy, hP2, hT2⟩ := hans
      have hle := (parse_less F).2.1 [] l g' n l1 g1 hx
      have HLE := Lib.hid hle
      have HW := Lib.hid (HRD1.out.piece hT2 hy hP2 hle (.cells #[.int .i64 y.kind, .int .u64 (y.set 0), .int .u64 (y.set 1), .int .u64 (y.set 2), .int .u64 (y.set 3), .int .i64 y.lo, .int .i64 y.hi, .int .i64 y.num, .slice y.A y.n y.c] 30))
      clear hT2 hy hP2 hle
      rw [NV.v_eq]
      go_wp2_with (refine wpList_append_raw 18 (nsV [y]) elem_node HW.out.1 HW.out.2.1 rfl oneCell_nsV rfl rfl HW.out.2.2.2.1 HW.out.2.2.1 ?_)
      intro v' w4 hr hA hk
      have HRD := Lib.hid (HW.out.2.2.2.2 v' w4 hr hA hk)
      clear hr hA hk HW
      go_wp2_with fail
      go_at_call 17
      refine (next_is HRD.out.p).mono ?_
      rintro e w5 ⟨rfl, rfl⟩
      obtain ⟨q, hq⟩ : ∃ q, q = headK l1 := ⟨_, rfl⟩
      rw [← hq]
      have HQ := Lib.hid hq
      clear hq
      by_cases q6 : q = 6
      · have HE := Lib.hid (show altP F (acc ++ [n]) (l1.drop 1) g1 = R by rw [← HR.out.2 n l1 g1 hx, if_pos]; rw [← HQ.out]; exact q6)
        have n6 : (q == 6) = true := by simp [q6]
        clear hx q6
        go_wp2_with fail
        go_at_call 22
        refine (take_is HRD.out.p).mono ?_
        rintro e w6 ⟨rfl, hP6, hT6⟩
        have HRE := Lib.hid (HRD.out.taken hT6 hP6 (by simp))
        clear hP6 hT6
        go_wp2_with fail
        go_step3
        exact ⟨rfl, ⟨F, acc ++ [n], xs ++ [y], l1.drop 1, g1, v', _, _, _, _, _, _, _, _, _, _, _, _, _, _, _, _, _, _, _, _, _, HE.out, by have := HFB.out; have := HLE.out; rw [List.length_drop]; omega, by have := HFB.out; omega, HRE.out, rfl⟩, by rw [HRE.out.p.lenAt, HLA.out, List.length_drop]; have := HLE.out; omega⟩
      · have HE := Lib.hid (show R = some (joinK 3 (acc ++ [n]), l1, g1) by rw [← HR.out.2 n l1 g1 hx, if_neg]; rw [← HQ.out]; exact q6)
        have n6 : (q == 6) = false := by simp [q6]
        clear hx
        go_wp2_with fail
        obtain ⟨A, c, rfl, hc, hA, _⟩ := own_off (S := (· < w.heap.size + 1)) HRD.out.r (fun k h => h)
        have HLN := Lib.hid (show (acc ++ [n]).length = acc.length + 1 by simp)
        have HJ := Lib.hid (joined_is (S := (· < w.heap.size + 1)) (w := w5) (k := 3) (ts := acc ++ [n]) (xs := xs ++ [y]) (A := A) (c := c) ⟨HRD.out.k.1, fun i t x h1 h2 => (HRD.out.k.2 i t x h1 h2).weaken (fun k h => .inl h)⟩ hc hA)
        go_at_call 23
        refine HJ.out.mono ?_
        rintro e w6 ⟨z, rfl, hz, hb6⟩
        rw [NV.v_eq]
        obtain ⟨⟨c0, c1, c2, c3, c4, c5, c6, c7, c8⟩, f0, f1, f2, f3, f4, f5, f6, f7, f8⟩ := box9 (Below.obj hb6 HRD.out.o (by have := HRD.out.z; omega))
        have l6 : w.heap.size < w6.heap.size := by have := hb6.size; have := HRD.out.z; omega
        have HT6 := Lib.hid (And.intro (HRD.out.t.trans (Turned.of_below hb6) (fun _ _ h => h)) (And.intro hz (HRD.out.p.below hb6)))
        clear hz hb6
        go_wp2_with fail
        simp only [Exit.jump]
        refine bodyPost_ret (v := .tuple #[.agg #[.int .i64 z.kind, .int .u64 (z.set 0), .int .u64 (z.set 1), .int .u64 (z.set 2), .int .u64 (z.set 3), .int .i64 z.lo, .int .i64 z.hi, .int .i64 z.num, .slice z.A z.n z.c], .bool true]) (by simp [results, Try.results16, go_sem, c0, c1, c2, c3, c4, c5, c6, c7, c8]) rfl ?_
        obtain ⟨A1, A2⟩ := out9 HT6.out.1 (.int .i64 z.kind) (.int .u64 (z.set 0)) (.int .u64 (z.set 1)) (.int .u64 (z.set 2)) (.int .u64 (z.set 3)) (.int .i64 z.lo) (.int .i64 z.hi) (.int .i64 z.num) (.slice z.A z.n z.c)
        exact PAns.good HE.out z ((HT6.out.2.1.turned_off A2 (fun k _ h => by show k < w.heap.size + 1; omega)).weaken (fun k h => by show k < w.heap.size + 1; omega)) (HT6.out.2.2.turned A2 (fun k h => by rw [h]; exact hl)) A1
theorem parser_ok : ∀ f : Nat, PieceOk f ∧ RowOk f ∧ AltOk f ∧ GroupOk f
  | 0 => ⟨fun w pb ts g _ h _ => by omega, fun w pb ts g _ h _ => by omega, fun w pb ts g _ h _ => by omega, fun w pb ts g _ h _ => by omega⟩
  | f + 1 => by
    have ih := fun k (h : k ≤ f) => parser_ok k
    exact ⟨piece_of (ih f (Nat.le_refl _)).2.2.2, row_of (fun k h => (ih k h).1), alt_of (fun k h => (ih k h).2.1), group_of (ih f (Nat.le_refl _)).2.2.1⟩
end Go.Proofs.Ytbehbbmhkkidfaa
