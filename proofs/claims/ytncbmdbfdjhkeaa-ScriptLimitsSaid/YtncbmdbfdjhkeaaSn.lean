/-
  Package script: templates. Condition: texts of at most 2000 bytes.
-/
import Derived.Test.YtncbmdbfdjhkeaaSk
import Derived.Test.YtncbmdbfdjhkeaaRp4
import Derived.LoopIn
namespace Go.Proofs.Ytncbmdbfdjhkeaa
open Go.RowKit Go.Deep Go.Sort

theorem flat_len {α : Type} {f : α → List Value} {m : Nat} (hf : ∀ x, (f x).length = m) : ∀ l : List α, (l.flatMap f).length = l.length * m
  | [] => by simp
  | a :: r => by rw [List.flatMap_cons, List.length_append, hf, flat_len hf r, List.length_cons, Nat.add_mul, Nat.one_mul, Nat.add_comm]
theorem flat_get {α : Type} {f : α → List Value} {m : Nat} (hf : ∀ x, (f x).length = m) : ∀ (l : List α) (i : Nat) (x : α), l[i]? = some x → ∀ (j : Nat) (v : Value), (f x)[j]? = some v → (l.flatMap f)[i * m + j]? = some v
  | [], i, x, h, _, _, _ => by simp at h
  | a :: r, 0, x, h, j, v, hv => by
    simp at h
    subst h
    rw [List.flatMap_cons, Nat.zero_mul, Nat.zero_add, List.getElem?_append_left (List.getElem?_eq_some_iff.1 hv).1]
    exact hv
  | a :: r, i + 1, x, h, j, v, hv => by
    rw [List.flatMap_cons, List.getElem?_append_right (by rw [hf, Nat.add_mul]; omega), hf, show (i + 1) * m + j - m = i * m + j by rw [Nat.add_mul]; omega]
    exact flat_get hf r i x (by simpa using h) j v hv
/-- A row's element, as it lies. -/
theorem raw_elem {α : Type} {f : α → List Value} {m : Nat} (hf : ∀ x, (f x).length = m) (hm : 0 < m) {w : World} {A : Option Addr} {l : List α} (h : RawAt w A (l.flatMap f)) {i : Nat} {x : α} (hx : l[i]? = some x) : ∃ g o, A = some ⟨g, o, none⟩ ∧ w.rangeAt g (o + i * m) (f x) := by
  rcases h with h | ⟨g, o, e, hr⟩
  · have h2 := flat_len hf l
    rw [h] at h2
    have h3 := (List.getElem?_eq_some_iff.1 hx).1
    have h4 : 0 < l.length * m := Nat.mul_pos (by omega) hm
    simp only [List.length_nil] at h2
    omega
  · refine ⟨g, o, e, fun j v hv => ?_⟩
    rw [Nat.add_assoc]
    exact hr _ v (flat_get hf l i x hx j v hv)
/-- The greatest group of some pieces. -/
def mxG (l : List Pc) : Int := l.foldl (fun k p => max k p.2) 0
theorem mxG_take {l : List Pc} {i : Nat} {x : Pc} (h : l[i]? = some x) : mxG (l.take (i + 1)) = max (mxG (l.take i)) x.2 := by
  unfold mxG
  rw [List.take_add_one, h, List.foldl_append]
  rfl
set_option maxRecDepth 100000 in
set_option maxHeartbeats 4000000 in
theorem tgroups_m {l : List Pc} {cl : Nat} {A : Option Addr} {w : World} (hl : l.length ≤ 1048576) (hr : RawAt w A (pcsV l)) : Calls Try.prog 57 #[.slice A l.length cl] w fun e w' => e = .returned (.int .i64 (mxG l)) ∧ Below w.heap.size w w' := by
  have HR := Lib.hid hr
  have HL := Lib.hid hl
  obtain ⟨n, hn⟩ : ∃ n, n = l.length := ⟨_, rfl⟩
  have HN := Lib.hid hn
  rw [← hn]
  clear hr hl hn
  go_enter Try.func57, Try.ntmps57
  go_wp2_with fail
  go_loopw [3, 8] (fun kv iv wz => ∃ i : Nat, iv = .int .i64 (i : Int) ∧ kv = .int .i64 (mxG (l.take i)) ∧ Hid (i ≤ n ∧ Below w.heap.size w wz)) (fun _ iv _ => n + 1 - (intOf iv).toNat)
  case atStart => exact ⟨0, rfl, rfl, Lib.hid ⟨Nat.zero_le _, Below.refl _ _⟩⟩
  case round =>
    obtain ⟨i, rfl, rfl, HI⟩ := hrel
    have hle := HI.out.1
    by_cases hi : i < n
    case neg =>
      have hd : decide ((i : Int) < (n : Int)) = false := decide_eq_false (by omega)
      have hdn : decide (i < n) = false := decide_eq_false hi
      have hll : (n : Int) ≤ (i : Int) := by omega
      have HE := Lib.hid (show mxG (l.take i) = mxG l by rw [List.take_of_length_le (by have := HN.out; omega)])
      clear hle hi
      go_wp2_with fail
      go_ret
      exact ⟨by rw [← HE.out]; rfl, HI.out.2⟩
    have hd : decide ((i : Int) < (n : Int)) = true := decide_eq_true (by omega)
    have hdn : decide (i < n) = true := decide_eq_true hi
    have hii : (i : Int) < (n : Int) := by omega
    have hi0 : (0 : Int) ≤ (i : Int) := by omega
    obtain ⟨x, hx⟩ : ∃ x, l[i]? = some x := ⟨l[i]'(by rw [← HN.out]; exact hi), List.getElem?_eq_getElem _⟩
    obtain ⟨g, o, rfl, hcs⟩ := raw_elem (f := Pc.cells) (m := 2) (fun _ => rfl) (by omega) (HR.out.below HI.out.2) hx
    have k0 := hcs 0 _ rfl
    have k1 := hcs 1 _ rfl
    rw [Nat.add_zero] at k0
    have e1 : IntKind.i64.wrap ((i : Int) + 1) = ((i + 1 : Nat) : Int) := by have := HL.out; have := HN.out; rw [IntWalk.i64_in _ (by omega)]; omega
    have HX := Lib.hid (mxG_take hx)
    have HM := Lib.hid hi
    have HBX := Lib.hid (show Below w.heap.size w (wr.alloc (.cells #[.string x.1, .int .i64 x.2] 109)) from HI.out.2.alloc HI.out.2.size _)
    clear hcs hx hle
    go_wp2_with fail
    go_roundw
    case rel => exact ⟨i + 1, by go_num, by rw [HX.out], by have := HM.out; exact Lib.hid ⟨by omega, HBX.out⟩⟩
    case measure => have := HM.out; simp [intOf]; omega
set_option maxRecDepth 100000 in
set_option maxHeartbeats 8000000 in
theorem groups_leaf {y : NV} {w : World} (hk : y.kind ≠ 5) (hn : y.n = 0) : Calls Try.prog 58 #[.agg y.cells.toArray] w fun e w' => e = .returned (.int .i64 0) ∧ Below w.heap.size w w' := by
  obtain ⟨k, S, lo, hi, num, A, n, c⟩ := y
  simp only at hk hn
  subst hn
  have g5 : (k == 5) = false := beq_eq_false_iff_ne.2 hk
  unfold NV.cells
  clear hk
  simp only
  go_enter Try.func58, Try.ntmps58
  go_wp2_with fail
  go_loopw [3, 14] (fun cv iv wz => cv = .int .i64 0 ∧ iv = .int .i64 0 ∧ Hid (Below w.heap.size w wz)) (fun _ _ _ => 0)
  case atStart => exact ⟨rfl, rfl, Lib.hid (bW w _)⟩
  case round =>
    obtain ⟨rfl, rfl, HI⟩ := hrel
    go_wp2_with fail
    go_ret
    exact ⟨rfl, HI.out⟩
/-- What is cut is no longer than what it is cut from. -/
theorem cut_sz (d : UInt8) (ln : Bool) : ∀ (k : Nat) (l : List UInt8), l.length ≤ k → ∀ p, cutF d ln l = some p → p.1.length ≤ p.2
  | _, [], _, p, h => by simp [cutF] at h
  | _, [c], _, p, h => by
    unfold cutF at h
    split at h
    · cases h
    · split at h
      · injection h with h; subst h; simp
      · cases h
  | 0, _ :: _ :: _, hk, _, _ => by simp at hk
  | k + 1, c :: x :: r, hk, p, h => by
    simp only [List.length_cons] at hk
    rw [cutF] at h
    split at h
    · cases h
    · split at h
      · injection h with h; subst h; simp
      · split at h
        · split at h
          · cases h
          · cases hq : cutF d ln r with
            | none => rw [hq] at h; cases h
            | some q =>
              have := cut_sz d ln k r (by omega) q hq
              rw [hq] at h
              injection h with h
              subst h
              simp only [List.length_append]
              split <;> simp only [List.length_cons, List.length_nil] <;> omega
        · cases hq : cutF d ln (x :: r) with
          | none => rw [hq] at h; cases h
          | some q =>
            have := cut_sz d ln k (x :: r) (by simp only [List.length_cons]; omega) q hq
            rw [hq] at h
            injection h with h
            subst h
            simp only [List.length_cons] at this ⊢
            omega
theorem cutG_sz {d : UInt8} {ln : Bool} {l : List UInt8} {n : Nat} {p : List UInt8 × Nat} (h : cutG d ln l (n : Int) = some p) : p.1.length ≤ l.length := by
  have h1 := cutG_le h
  unfold cutG at h
  split at h
  · unfold cutAt at h
    rw [Int.toNat_natCast] at h
    cases hq : cutF d ln (l.drop n) with
    | none => rw [hq] at h; cases h
    | some q =>
      have := cut_sz d ln _ (l.drop n) (Nat.le_refl _) q hq
      rw [hq] at h
      injection h with h
      subst h
      simp only [List.nil_append] at h1 ⊢
      omega
  · cases h
theorem cell_far2 {k b j i : Nat} (h : k ≠ b) (W : World) (v : Value) : (W.setCell ⟨b, j, none⟩ v).cell? ⟨k, i, none⟩ = W.cell? ⟨k, i, none⟩ := World.cell?_of_block (heap_setCell_other W _ k v h)
theorem quiet_load_row {ops : Array Oper} {rest : List Oper} {o : Oper} {a : Act} {C : World → Prop} {Q : Act → Prop} (hw : Region.wanted o (yielded ops a.tmps) = true) (ty : TypeId) (x : Operand) (ho : o.op = .load ty x) (b f : Nat) (hx : a.eval x = .pointer (some ⟨b, f, none⟩)) (cs : List Value) (d : TypeDesc) (hS : ∀ w, C w → w.rangeAt b f cs)
    (hu : Try.prog.underlying ty = some d) (hd : d.isRow = true) (hi : (Try.prog.info? ty).map (·.size) = some cs.length) (h : wpQuiet Try.prog ops C Q rest (a.put o.dst (.agg cs.toArray))) : wpQuiet Try.prog ops C Q (o :: rest) a := by
  refine BigFrame.wpQuiet_want hw fun K hK => ⟨.agg cs.toArray, fun w hC => ?_, hK _ h⟩
  unfold Oper.quietAt
  rw [show (execOp a.eval o).run Try.prog w = .ok (.value (.agg cs.toArray)) w by
    unfold execOp
    simp only [ho, hx, Instr.loadAt, Instr.sureAddr, Sem.run_bind, Sem.run_pure, Result.andThen_ok, run_loadVar_mid w b f ty cs d (hS w hC) hu hd hi]]
  exact ⟨rfl, rfl⟩
theorem range_regrown {w : World} {b f : Nat} {cs : List Value} (h : w.rangeAt b f cs) : ∀ w', (∃ p : Regrown, w' = grow (redrawn w p.d) p.os) → w'.rangeAt b f cs := by
  rintro w' ⟨p, rfl⟩ j v hv
  exact cell_regrown (h j v hv) _ _
theorem own_far {w : World} {base : Nat} {e : TypeId} {sz : Nat} {v : Value} {n : Nat} {vs : List Value} (h : w.ownsRow base e sz v n vs) : ∃ A c, v = .slice A n c ∧ RawAt w A vs ∧ ∀ a, A = some a → base ≤ a.block := by
  obtain ⟨A, c, rfl, hle, hraw, hl⟩ := own_form h
  refine ⟨A, c, rfl, hraw, fun a ha => ?_⟩
  subst ha
  rcases h.2 with ⟨e, _⟩ | ⟨k, cap, cur, e, hk, _⟩
  · cases e
  · cases e
    exact hk
theorem size_node : (Try.prog.info? 37).map (·.size) = some 9 := by kernel_rfl
set_option maxRecDepth 100000 in
set_option maxHeartbeats 8000000 in
theorem template_m {s : ByteArray} {ext : Bool} {r b n m : Nat} {c : CX} {w : World} (hz : s.size ≤ 2000) (hrb : r ≠ b) (h : Rd s ext r (n : Int) w) (hc : Cm c b w) (d : UInt8) {tp : List UInt8} (hcut : cutG d true s.data.toList (n : Int) = some (tp, m)) {ps : List Pc} (hps : tplF tp.length [] [] tp = some ps) (hpl : ps.length ≤ 1048576) (hgr : c.ag = true ∨ (c.ag = false ∧ c.py.n = 0 ∧ c.py.kind ≠ 5 ∧ mxG ps ≤ 0)) : Calls Try.prog 47 #[.pointer (some ⟨r, 0, none⟩), .pointer (some ⟨b, 0, none⟩), .int .u8 (d.toNat : Int)] w fun e w' => e = .returned (.bool true) ∧ ∃ v : Value, v.oneCell' = true ∧ RC s ext r b (m : Int) { c with tv := v } w w' := by
  have HRB := Lib.hid hrb
  have HBL := Lib.hid hc.lt
  have HRL := Lib.hid h.lt
  have H0 := Lib.hid (RC.start h hc)
  have HZ := Lib.hid hz
  have HCT := Lib.hid hcut
  have HPS := Lib.hid hps
  have HPL := Lib.hid hpl
  have HGR := Lib.hid hgr
  have hts : (txt tp).size = tp.length := by simp [size_txt]
  have HTP := Lib.hid (show tp.length ≤ 2000 by have := cutG_sz hcut; have h2 : s.data.toList.length = s.size := by simp
                                                simp only at this; omega)
  have HTL := Lib.hid fun W => tpl_is (txt tp) (by rw [hts]; have := HTP.out; omega) W
  rw [hts, txt_data, hps] at HTL
  unfold TplA at HTL
  simp only at HTL
  clear hrb h hc hz hcut hps hpl hgr hts
  go_enter Try.func47, Try.ntmps47
  go_upto_region 2 with fail
  obtain ⟨t, ht⟩ : ∃ t, t = w.heap.size := ⟨_, rfl⟩
  obtain ⟨w1, hw1⟩ : ∃ w1, w1 = w.alloc (.cells #[.string ⟨#[]⟩] 9) := ⟨_, rfl⟩
  have H1 := Lib.hid (show RC s ext r b (n : Int) c w w1 by rw [hw1]; exact H0.out.below (bW w _))
  have HT1 := Lib.hid (show B1 (.string ⟨#[]⟩) 9 t w1 by rw [hw1, ht]; exact heap_alloc_new w _)
  have HTQ := Lib.hid (show w.heap.size ≤ t by omega)
  rw [← hw1, ← ht]
  clear ht hw1
  have HCU := Lib.hid (cut_m HZ.out H1.out.rd HT1.out (by have := HTQ.out; have := HRL.out; omega) d true (o := some (tp, m)) HCT.out.symm)
  go_wp2_with fail
  go_at_call 54
  with_reducible refine HCU.out.mono ?_
  rintro e w2 ⟨rfl, hcu⟩
  obtain ⟨⟨X, m', hXb, hrd, hXm⟩, htu⟩ := hcu
  obtain ⟨hX, hm'⟩ := hXm _ rfl
  simp only at hX hm'
  subst hm'
  subst hX
  have H2 := Lib.hid (show RC s ext r b (m' : Int) c w w2 from H1.out.cut HTQ.out htu hrd (by have := HTQ.out; have := HBL.out; omega) HRB.out)
  have HXB := Lib.hid hXb
  clear hXb hXm hrd htu HCU
  have k0 := HXB.out.cell
  go_wp2_with fail
  go_at_call 56
  with_reducible refine (HTL.out _).mono ?_
  rintro e w3 ⟨hb3, v, rfl, hown⟩
  obtain ⟨A, cp, rfl, hraw, hfar⟩ := own_far hown
  have HFA := Lib.hid hfar
  have HS2 := Lib.hid H2.out.tu.size
  have H3 := Lib.hid (H2.out.below hb3)
  have HRW := Lib.hid hraw
  clear hb3 hown hraw k0 hfar
  have kc := H3.out.cm.cell 37 _ rfl
  have kf := H3.out.cm.free 37
  go_upto_region 8 with fail
  have H4 := Lib.hid (show RC s ext r b (m' : Int) { c with tv := .slice A ps.length cp } w (w3.setCell ⟨b, 37, none⟩ (.slice A ps.length cp)) from H3.out.set HRB.out 37 _ _ (by kernel_rfl))
  have HR4 := Lib.hid (show RawAt (w3.setCell ⟨b, 37, none⟩ (.slice A ps.length cp)) A (pcsV ps) by
    rcases HRW.out with h | ⟨g, o, e, hr⟩
    · exact .inl h
    · refine .inr ⟨g, o, e, fun j v hv => ?_⟩
      exact (cell_far2 (by have := HFA.out _ e; simp only at this; have := HS2.out; have := HBL.out; omega) _ _).trans (hr j v hv))
  obtain ⟨w4, hw4⟩ : ∃ w4, w4 = w3.setCell ⟨b, 37, none⟩ (.slice A ps.length cp) := ⟨_, rfl⟩
  rw [← hw4] at H4 HR4 ⊢
  clear hw4 kc kf H3 HRW HTL
  rcases HGR.out with hag | ⟨hag, hn0, hk5, hmx⟩
  · have k36 := cell_regrown (H4.out.cm.cell 36 _ rfl)
    simp only [hag] at k36
    refine wp_region_quiet_below (by kernel_rfl) (by kernel_rfl) ?_
    repeat (go_big_quiet_step (fail))
    refine wpQuiet_nil ?_
    rintro w9 ⟨⟨dq, osq⟩, rfl⟩
    have H9 := Lib.hid (H4.out.below (below_regrown w4 dq osq))
    generalize grow (redrawn w4 dq) osq = w9 at H9 ⊢
    clear k36
    go_wp2_with fail
    go_ret
    exact ⟨rfl, _, rfl, H9.out⟩
  · have k36 := cell_regrown (H4.out.cm.cell 36 _ rfl)
    have k37 := cell_regrown (H4.out.cm.cell 37 _ rfl)
    simp only [hag] at k36
    have RG := Lib.hid (show ∀ (k : Nat) (os : Array Obj), Calls Try.prog 57 #[.slice A ps.length cp] (grow (redrawn w4 k) os) fun e w'' => e = .returned (.int .i64 (mxG ps)) ∧ ∃ p : Regrown, w'' = grow (redrawn w4 p.d) p.os from fun k os => Calls.regrown_of (tgroups_m HPL.out (HR4.out.below (below_regrown w4 k os))))
    have RL := Lib.hid (show ∀ (k : Nat) (os : Array Obj), Calls Try.prog 58 #[.agg c.py.cells.toArray] (grow (redrawn w4 k) os) fun e w'' => e = .returned (.int .i64 0) ∧ ∃ p : Regrown, w'' = grow (redrawn w4 p.d) p.os from fun k os => Calls.regrown_of (groups_leaf hk5 hn0))
    have HND := Lib.hid (range_regrown H4.out.cm.pat_node)
    have g1 : decide (mxG ps ≤ 0) = true := decide_eq_true hmx
    obtain ⟨M, hM⟩ : ∃ M, M = mxG ps := ⟨_, rfl⟩
    rw [← hM] at RG g1 hmx
    clear hM hag hn0 hk5
    refine wp_region_quiet_below (by kernel_rfl) (by kernel_rfl) ?_
    repeat (first | (refine quiet_load_row (by rfl) 37 (.tmp 35) rfl b 27 rfl c.py.cells _ HND.out Try.underlying37 rfl size_node ?_; simp only [Act.put, List.setIfInBounds_toArray, List.set_cons_succ, List.set_cons_zero]) | go_big_quiet_step (first | (with_reducible exact RG.out _ _) | (with_reducible exact RL.out _ _)))
    refine wpQuiet_nil ?_
    rintro w9 ⟨⟨dq, osq⟩, rfl⟩
    have H9 := Lib.hid (H4.out.below (below_regrown w4 dq osq))
    generalize grow (redrawn w4 dq) osq = w9 at H9 ⊢
    clear k36 k37 RG RL
    go_wp2_with fail
    go_ret
    exact ⟨rfl, _, rfl, H9.out⟩
end Go.Proofs.Ytncbmdbfdjhkeaa
