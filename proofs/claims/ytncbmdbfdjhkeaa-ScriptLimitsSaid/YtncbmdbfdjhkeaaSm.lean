/-
  Package script: the flags of s. Condition: texts of at most 2000 bytes.
-/
import Derived.Test.YtncbmdbfdjhkeaaSl
namespace Go.Proofs.Ytncbmdbfdjhkeaa
open Go.RowKit Go.Deep Go.Sort

set_option maxRecDepth 100000 in
set_option maxHeartbeats 8000000 in
theorem once_gl {s : ByteArray} {ext : Bool} {r b p n : Nat} {c : CX} {w : World} (hz : s.size ≤ 2000) (hrb : r ≠ b) (h : Rd s ext r (n : Int) w) (hc : Cm c b w) (hp : B1 (.pointer (some ⟨r, 0, none⟩)) 52 p w) (t : ByteArray) {o : Bool} (ho : o = oneF t.data.toList s.data.toList (n : Int)) : Calls Try.prog 59 #[.string t, .pointer (some ⟨b, 38, none⟩), .pointer (some ⟨p, 0, none⟩)] w fun e w' => e = .returned (.bool (cond c.gl false o)) ∧ RC s ext r b ((cond c.gl n (if o then n + 1 else n) : Nat) : Int) { c with gl := cond c.gl true o } w w' := by
  have HT := Lib.hid (take_m hz h t ho)
  have HR := Lib.hid (RC.start h hc)
  have HRB := Lib.hid hrb
  have k0 := hp.cell
  have k1 := hc.cell 38 _ rfl
  clear ho hz h hrb
  cases hf : c.gl with
  | true =>
    rw [hf] at k1
    have HF := Lib.hid hf
    clear hf hc HT
    go_enter Try.func59, Try.ntmps59
    go_wp2_with fail
    all_goals
      go_ret
      have e : ({ c with gl := true } : CX) = c := by rw [← HF.out]
      have h2 := HR.out
      rw [← e] at h2
      exact ⟨rfl, h2⟩
  | false =>
    rw [hf] at k1
    have HF := Lib.hid hf
    clear hf
    go_enter Try.func59, Try.ntmps59
    go_wp2_with fail
    go_at_call 12
    with_reducible refine HT.out.mono ?_
    rintro e w1 ⟨rfl, hv⟩
    have H1 := Lib.hid (HR.out.move HRB.out hv)
    clear hv HT k0 k1 hc hp
    cases o with
    | false =>
      go_wp2_with fail
      go_ret
      have e : ({ c with gl := false } : CX) = c := by rw [← HF.out]
      have h2 := H1.out
      rw [← e] at h2
      exact ⟨rfl, h2⟩
    | true =>
      have k1 := H1.out.cm.cell 38 _ rfl
      have kf := H1.out.cm.free 38
      go_wp2_with fail
      go_ret
      exact ⟨rfl, H1.out.set HRB.out 38 _ _ (by kernel_rfl)⟩
set_option maxRecDepth 100000 in
set_option maxHeartbeats 8000000 in
theorem once_pr {s : ByteArray} {ext : Bool} {r b p n : Nat} {c : CX} {w : World} (hz : s.size ≤ 2000) (hrb : r ≠ b) (h : Rd s ext r (n : Int) w) (hc : Cm c b w) (hp : B1 (.pointer (some ⟨r, 0, none⟩)) 52 p w) (t : ByteArray) {o : Bool} (ho : o = oneF t.data.toList s.data.toList (n : Int)) : Calls Try.prog 59 #[.string t, .pointer (some ⟨b, 39, none⟩), .pointer (some ⟨p, 0, none⟩)] w fun e w' => e = .returned (.bool (cond c.pr false o)) ∧ RC s ext r b ((cond c.pr n (if o then n + 1 else n) : Nat) : Int) { c with pr := cond c.pr true o } w w' := by
  have HT := Lib.hid (take_m hz h t ho)
  have HR := Lib.hid (RC.start h hc)
  have HRB := Lib.hid hrb
  have k0 := hp.cell
  have k1 := hc.cell 39 _ rfl
  clear ho hz h hrb
  cases hf : c.pr with
  | true =>
    rw [hf] at k1
    have HF := Lib.hid hf
    clear hf hc HT
    go_enter Try.func59, Try.ntmps59
    go_wp2_with fail
    all_goals
      go_ret
      have e : ({ c with pr := true } : CX) = c := by rw [← HF.out]
      have h2 := HR.out
      rw [← e] at h2
      exact ⟨rfl, h2⟩
  | false =>
    rw [hf] at k1
    have HF := Lib.hid hf
    clear hf
    go_enter Try.func59, Try.ntmps59
    go_wp2_with fail
    go_at_call 12
    with_reducible refine HT.out.mono ?_
    rintro e w1 ⟨rfl, hv⟩
    have H1 := Lib.hid (HR.out.move HRB.out hv)
    clear hv HT k0 k1 hc hp
    cases o with
    | false =>
      go_wp2_with fail
      go_ret
      have e : ({ c with pr := false } : CX) = c := by rw [← HF.out]
      have h2 := H1.out
      rw [← e] at h2
      exact ⟨rfl, h2⟩
    | true =>
      have k1 := H1.out.cm.cell 39 _ rfl
      have kf := H1.out.cm.free 39
      go_wp2_with fail
      go_ret
      exact ⟨rfl, H1.out.set HRB.out 39 _ _ (by kernel_rfl)⟩
/-- The flags of s: the mark of all, of printing, the number, the file, and where they end; nothing if the file is none. -/
structure Fl where
  gl : Bool
  pr : Bool
  cd : Bool
  cnt : Int
  n : Nat
def flF : Nat → List UInt8 → Fl → Fl
  | 0, _, f => f
  | k + 1, l, f => if cond f.gl false (oneF [103] l (f.n : Int)) = true then flF k l { f with gl := true, n := f.n + 1 }
    else if cond f.pr false (oneF [112] l (f.n : Int)) = true then flF k l { f with pr := true, n := f.n + 1 }
    else if (numF l (f.n : Int)).2.2 = true ∧ 0 < (numF l (f.n : Int)).1 ∧ f.cd = false then flF k l { f with cd := true, cnt := ((numF l (f.n : Int)).1 : Int), n := (numF l (f.n : Int)).2.1.toNat }
    else f
/-- What the flags make of a command. -/
def fx (c : CX) (f : Fl) : CX := { c with gl := f.gl, pr := f.pr, cnt := f.cnt }
/-- What is behind the flags: a file, or nothing. -/
def fileF (l : List UInt8) (n : Nat) (X : ByteArray) (m : Nat) (ok : Bool) : Prop := (oneF [119] l (n : Int) = false ∧ ok = true ∧ m = n ∧ X = ⟨#[]⟩) ∨ (oneF [119] l (n : Int) = true ∧ X = txt (upF endR l ((n + 1 : Nat) : Int)).1 ∧ (m : Int) = (upF endR l ((n + 1 : Nat) : Int)).2 ∧ ok = decide (RightP X))
set_option maxRecDepth 100000 in
set_option maxHeartbeats 16000000 in
theorem flags_m {s : ByteArray} {ext : Bool} {r b n : Nat} {c : CX} {w : World} (hz : s.size ≤ 2000) (hn : n ≤ s.size) (hrb : r ≠ b) (h : Rd s ext r (n : Int) w) (hc : Cm c b w) (hfl : c.file = ⟨#[]⟩) {G : Fl} (hG : G = flF (s.size + 1) s.data.toList ⟨c.gl, c.pr, false, 1, n⟩) {X : ByteArray} {m : Nat} {ok : Bool} (hF : fileF s.data.toList G.n X m ok) : Calls Try.prog 48 #[.pointer (some ⟨r, 0, none⟩), .pointer (some ⟨b, 0, none⟩)] w fun e w' => e = .returned (.bool ok) ∧ RC s ext r b (m : Int) { fx c G with file := X } w w' := by
  obtain ⟨l, hl⟩ : ∃ l, l = s.data.toList := ⟨_, rfl⟩
  have HL := Lib.hid hl
  have HSZ := Lib.hid (show l.length = s.size by rw [hl]; simp)
  rw [← hl] at hG hF
  have HG := Lib.hid hG
  have HF := Lib.hid hF
  have HZ := Lib.hid hz
  have HN := Lib.hid hn
  have HRB := Lib.hid hrb
  have HR := Lib.hid (RC.start h hc)
  have HRL := Lib.hid h.lt
  have HBL := Lib.hid hc.lt
  have HFL := Lib.hid hfl
  clear hl hG hF hz hn hrb h hc hfl
  go_enter Try.func48, Try.ntmps48
  go_upto_region 1 with fail
  obtain ⟨p, hp⟩ : ∃ p, p = w.heap.size := ⟨_, rfl⟩
  obtain ⟨w0, hw0⟩ : ∃ w0, w0 = w.alloc (.cells #[.pointer (some ⟨r, 0, none⟩)] 52) := ⟨_, rfl⟩
  have H0 := Lib.hid (show RC s ext r b (n : Int) c w w0 by rw [hw0]; exact HR.out.below (bW w _))
  have HP0 := Lib.hid (show B1 (.pointer (some ⟨r, 0, none⟩)) 52 p w0 by rw [hp, hw0]; exact heap_alloc_new w _)
  rw [← hw0, ← hp]
  have HPN := Lib.hid (show p ≠ r ∧ p ≠ b by have := HBL.out; have := HRL.out; omega)
  clear hp hw0
  have kc := H0.out.cm.cell 40 _ rfl
  have kf := H0.out.cm.free 40
  have H1 := Lib.hid (show RC s ext r b (n : Int) (fx c ⟨c.gl, c.pr, false, 1, n⟩) w (w0.setCell ⟨b, 40, none⟩ (.int .i64 1)) from H0.out.set HRB.out 40 _ _ (by kernel_rfl))
  have HP1 := Lib.hid (show B1 (.pointer (some ⟨r, 0, none⟩)) 52 p (w0.setCell ⟨b, 40, none⟩ (.int .i64 1)) from HP0.out.other HPN.out.2 _)
  refine tk_wp_scope_again 0 (fun a' w' => ∃ (k : Nat) (f : Fl), Hid (G = flF k l f ∧ l.length < k + f.n ∧ f.n ≤ l.length ∧ RC s ext r b (f.n : Int) (fx c f) w w' ∧ B1 (.pointer (some ⟨r, 0, none⟩)) 52 p w') ∧ ∃ u : Nat → Value, a' = { tmps := #[.pointer (some ⟨r, 0, none⟩), .pointer (some ⟨b, 0, none⟩), .pointer (some ⟨p, 0, none⟩), undef, .bool false, .bool f.cd, .func (.func 59) #[] #[.pointer (some ⟨p, 0, none⟩)], u 7, u 8, u 9, u 10, u 11, u 12, u 13, u 14, u 15, u 16, u 17, u 18, u 19, u 20, u 21, u 22, u 23, u 24, u 25, u 26, u 27, u 28, u 29, u 30, u 31, u 32, u 33, u 34, u 35, u 36, u 37, u 38, u 39, u 40, u 41, u 42, u 43, u 44, u 45, u 46, u 47, u 48, u 49, u 50, u 51, u 52, u 53, u 54, u 55, u 56, u 57, u 58, u 59, u 60, u 61, u 62, u 63, u 64, u 65], defers := [] }) (fun _ w' => s.size + 1 - posOf r w') rfl ?_ ?_
  · intro hp
    have HPP := Lib.hid hp
    clear hp
    go_wp2_with fail
    go_step3
    simp only [Exit.then]
    rename_i hK
    refine hK _ _ (HPP.out _ _ ⟨s.size + 1, ⟨c.gl, c.pr, false, 1, n⟩, Lib.hid ⟨HG.out, by have := HSZ.out; simp only; omega, by have := HSZ.out; have := HN.out; simp only; omega, H1.out, HP1.out⟩, actF (by kernel_rfl)⟩)
  · clear kc kf
    rintro a' w1 ⟨k, f, HJ, u, rfl⟩
    obtain ⟨k, rfl⟩ : ∃ k', k = k' + 1 := ⟨k - 1, by have := HJ.out.2.1; have := HJ.out.2.2.1; omega⟩
    have HPS := Lib.hid (posOf_rd HJ.out.2.2.2.1.rd)
    have hsk := HJ.out.1
    unfold flF at hsk
    obtain ⟨o1, ho1⟩ : ∃ o1, o1 = oneF [103] l (f.n : Int) := ⟨_, rfl⟩
    have HON := Lib.hid (once_gl HZ.out HRB.out HJ.out.2.2.2.1.rd HJ.out.2.2.2.1.cm HJ.out.2.2.2.2 ⟨#[103]⟩ (o := o1) (by rw [ho1, HL.out]))
    have HO1 := Lib.hid ho1
    rw [← ho1] at hsk
    clear ho1
    have hgl : (fx c f).gl = f.gl := rfl
    rw [hgl] at HON
    clear hgl
    cases hc1 : cond f.gl false o1 with
    | true =>
      have hgf : f.gl = false ∧ o1 = true := by cases hg : f.gl <;> rw [hg] at hc1 <;> first | (cases hc1; done) | exact ⟨rfl, hc1⟩
      rw [hc1, if_pos rfl] at hsk
      have HK := Lib.hid hsk
      rw [hgf.1, hgf.2] at HON
      have HGF := Lib.hid hgf
      obtain ⟨_, _, _, hml⟩ := oneF_nat (HO1.out.symm.trans hgf.2)
      have HML := Lib.hid hml
      clear hsk hc1 hgf hml
      go_wp2_with fail
      go_at_call 59
      with_reducible refine HON.out.mono ?_
      rintro e w2 ⟨rfl, hrc⟩
      have H2 := Lib.hid (show RC s ext r b ((f.n + 1 : Nat) : Int) (fx c ⟨true, f.pr, f.cd, f.cnt, f.n + 1⟩) w w2 from HJ.out.2.2.2.1.trans hrc)
      have HP2 := Lib.hid (HJ.out.2.2.2.2.turned hrc.tu (by have := HPN.out; omega))
      clear hrc HON
      go_wp2_with fail
      go_step3
      have hp3 := posOf_rd H2.out.rd
      refine ⟨rfl, ⟨k, ⟨true, f.pr, f.cd, f.cnt, f.n + 1⟩, Lib.hid ⟨HK.out, by have := HJ.out.2.1; simp only; omega, HML.out, H2.out, HP2.out⟩, actF (by kernel_rfl)⟩, ?_⟩
      rw [hp3, HPS.out]
      have := HSZ.out; have := HML.out
      omega
    | false =>
      rw [hc1, if_neg (by decide)] at hsk
      have HC1 := Lib.hid hc1
      have hes : ({ fx c f with gl := cond (fx c f).gl true o1 } : CX) = fx c f ∧ (cond f.gl f.n (if o1 then f.n + 1 else f.n)) = f.n := by
        have h1 := hc1
        obtain ⟨fg, fp, fd, fc, fn⟩ := f
        cases fg <;> cases o1 <;> first | exact ⟨rfl, rfl⟩ | cases h1
      have hes1 : ({ fx c f with gl := cond f.gl true o1 } : CX) = fx c f := hes.1
      rw [hes1, hes.2] at HON
      clear hes hes1 hc1
      obtain ⟨o2, ho2⟩ : ∃ o2, o2 = oneF [112] l (f.n : Int) := ⟨_, rfl⟩
      have HO2 := Lib.hid ho2
      rw [← ho2] at hsk
      have HSK := Lib.hid hsk
      clear ho2 hsk
      rw [HC1.out] at HON
      go_wp2_with fail
      go_at_call 59
      with_reducible refine HON.out.mono ?_
      rintro e w2 ⟨rfl, hrc⟩
      have H2 := Lib.hid (show RC s ext r b (f.n : Int) (fx c f) w w2 from HJ.out.2.2.2.1.trans hrc)
      have HP2 := Lib.hid (HJ.out.2.2.2.2.turned hrc.tu (by have := HPN.out; omega))
      clear hrc HON
      have HOP := Lib.hid (once_pr HZ.out HRB.out H2.out.rd H2.out.cm HP2.out ⟨#[112]⟩ (o := o2) (by rw [HO2.out, HL.out]))
      have hpr : (fx c f).pr = f.pr := rfl
      rw [hpr] at HOP
      clear hpr
      cases hc2 : cond f.pr false o2 with
      | true =>
        have hgf : f.pr = false ∧ o2 = true := by cases hg : f.pr <;> rw [hg] at hc2 <;> first | (cases hc2; done) | exact ⟨rfl, hc2⟩
        have HK := Lib.hid (HSK.out.trans (by rw [hc2, if_pos rfl]))
        rw [hgf.1, hgf.2] at HOP
        obtain ⟨_, _, _, hml⟩ := oneF_nat (HO2.out.symm.trans hgf.2)
        have HML := Lib.hid hml
        clear hc2 hgf hml
        go_wp2_with fail
        go_at_call 59
        with_reducible refine HOP.out.mono ?_
        rintro e w3 ⟨rfl, hrc⟩
        have H3 := Lib.hid (show RC s ext r b ((f.n + 1 : Nat) : Int) (fx c ⟨f.gl, true, f.cd, f.cnt, f.n + 1⟩) w w3 from H2.out.trans hrc)
        have HP3 := Lib.hid (HP2.out.turned hrc.tu (by have := HPN.out; omega))
        clear hrc HOP
        go_wp2_with fail
        go_step3
        have hp3 := posOf_rd H3.out.rd
        refine ⟨rfl, ⟨k, ⟨f.gl, true, f.cd, f.cnt, f.n + 1⟩, Lib.hid ⟨HK.out, by have := HJ.out.2.1; simp only; omega, HML.out, H3.out, HP3.out⟩, actF (by kernel_rfl)⟩, ?_⟩
        rw [hp3, HPS.out]
        have := HSZ.out; have := HML.out
        omega
      | false =>
        have HC2 := Lib.hid hc2
        have hsk := HSK.out
        rw [hc2, if_neg (by decide)] at hsk
        have hes : ({ fx c f with pr := cond f.pr true o2 } : CX) = fx c f ∧ (cond f.pr f.n (if o2 then f.n + 1 else f.n)) = f.n := by
          have h1 := hc2
          obtain ⟨fg, fp, fd, fc, fn⟩ := f
          cases fp <;> cases o2 <;> first | exact ⟨rfl, rfl⟩ | cases h1
        rw [hes.1, hes.2] at HOP
        rw [HC2.out] at HOP
        clear hes hc2 HSK
        go_wp2_with fail
        go_at_call 59
        with_reducible refine HOP.out.mono ?_
        rintro e w3 ⟨rfl, hrc⟩
        have H3 := Lib.hid (show RC s ext r b (f.n : Int) (fx c f) w w3 from H2.out.trans hrc)
        have HP3 := Lib.hid (HP2.out.turned hrc.tu (by have := HPN.out; omega))
        clear hrc HOP H2 HP2
        have hnum := tk_number_is s (by have := HZ.out; omega) (f.n : Int) (by omega) (by have := HJ.out.2.2.1; have := HSZ.out; have := HZ.out; omega)
        rw [← HL.out] at hnum
        unfold NumV at hnum
        obtain ⟨N, hN⟩ : ∃ N, N = numF l (f.n : Int) := ⟨_, rfl⟩
        rw [← hN] at hnum hsk
        have HNV := Lib.hid hN
        have HNQ := Lib.hid fun k => Calls.quiet_of_same (hnum (w3.drewN k))
        obtain ⟨nv, na, nok⟩ := N
        simp only at HNQ hsk
        have HSK := Lib.hid hsk
        clear hN hnum hsk
        have k0 := HP3.out.cell
        have k1 := H3.out.rd.text
        have k2 := H3.out.rd.at
        go_upto_region 5 with fail
        go_quiet (exact HNQ.out _)
        have H5 := Lib.hid (H3.out.below (bD w3 nq))
        have HP5 := Lib.hid (HP3.out.stays (bD w3 nq))
        obtain ⟨w5, hw5⟩ : ∃ w5, w5 = w3.drewN nq := ⟨_, rfl⟩
        rw [← hw5] at H5 HP5 ⊢
        clear hw5 k0 k1 k2 HNQ H3 HP3
        by_cases hnum : nok = true ∧ 0 < nv ∧ f.cd = false
        · obtain ⟨rfl, hpos, hcd⟩ := hnum
          have g1 : decide ((0 : Int) < (nv : Int)) = true := decide_eq_true (by omega)
          have g1n : decide (0 < nv) = true := decide_eq_true hpos
          obtain ⟨g, hg, hgl⟩ := num_nat HNV.out.symm HJ.out.2.2.1
          subst hg
          have HK := Lib.hid (HSK.out.trans (if_pos ⟨rfl, hpos, hcd⟩))
          rw [Int.toNat_natCast] at HK
          have HGL := Lib.hid hgl
          have HGN := Lib.hid (show f.n < g by
            have h := HNV.out.symm
            unfold numF at h
            rw [if_pos (by omega)] at h
            split at h
            · rename_i hdg
              injection h with h1 h2
              injection h2 with h2 h3
              rw [Int.toNat_natCast] at hdg h2
              omega
            · injection h with h1 h2
              injection h2 with h2 h3
              cases h3)
          rw [hcd]
          clear hpos hgl
          have k0 := (HP5.out.stays (bD w5 1)).cell
          have kc := H5.out.cm.cell 40 _ rfl
          have kf := H5.out.cm.free 40
          go_upto_region 7 with fail
          refine wp_region_plan (fun wx => wx.cell? ⟨p, 0, none⟩ = some (.pointer (some ⟨r, 0, none⟩))) [.p 0, .p 2, .p 3, .p 4, .p 5, .l 1, .o 6, .p 7, .p 8, .o 9, .p 10] [9] (by kernel_rfl) (by kernel_rfl) (by kernel_rfl) (by repeat (first | exact pq_body | refine pq_then ?_ | refine pq_jump ?_ | refine pq_block ?_)) (by kernel_rfl) ?_
          iterate 5
            refine plan_p (v := ?_) rfl (by rfl) (fun wx => ?_) ?_
            rotate_left
            · go_simp
              try with_reducible rfl
            simp only [Act.put, List.setIfInBounds_toArray, List.set_cons_zero, List.set_cons_succ, List.getElem_toArray, List.getElem_cons_succ, List.getElem_cons_zero]
          iterate 1
            refine plan_l (v := ?_) k0 rfl (by rfl) (fun wx hSw => ?_) ?_
            rotate_left
            · have u0 := hSw
              go_simp
              try with_reducible rfl
            simp only [Act.put, List.setIfInBounds_toArray, List.set_cons_zero, List.set_cons_succ, List.getElem_toArray, List.getElem_cons_succ, List.getElem_cons_zero]
          refine plan_o rfl (fun K hK => ?_)
          go_simp
          have hp6 : B1 (.pointer (some ⟨r, 0, none⟩)) 52 p (w5.setCell ⟨b, 40, none⟩ (.int .i64 (nv : Int))).drew := (HP5.out.other HPN.out.2 _).stays (bD _ 1)
          refine hK _ _ ⟨fun _ _ => hp6.cell, ?_⟩
          clear hK K hp6
          try simp only [Act.put, List.setIfInBounds_toArray, List.set_cons_zero, List.set_cons_succ, List.getElem_toArray, List.getElem_cons_succ, List.getElem_cons_zero]
          have H6 := Lib.hid (show RC s ext r b (f.n : Int) (fx c { f with cnt := (nv : Int) }) w (w5.setCell ⟨b, 40, none⟩ (.int .i64 (nv : Int))).drew from (H5.out.set HRB.out 40 _ _ (by kernel_rfl)).below (bD _ 1))
          have HP6 := Lib.hid (show B1 (.pointer (some ⟨r, 0, none⟩)) 52 p (w5.setCell ⟨b, 40, none⟩ (.int .i64 (nv : Int))).drew from (HP5.out.other HPN.out.2 _).stays (bD _ 1))
          obtain ⟨w6, hw6⟩ : ∃ w6, w6 = (w5.setCell ⟨b, 40, none⟩ (.int .i64 (nv : Int))).drew := ⟨_, rfl⟩
          rw [← hw6] at H6 HP6 ⊢
          clear hw6 k0 kc kf
          have k1 := H6.out.rd.at
          have kf := H6.out.rd.free 1
          iterate 2
            refine plan_p (v := ?_) rfl (by rfl) (fun wx => ?_) ?_
            rotate_left
            · go_simp
              try with_reducible rfl
            simp only [Act.put, List.setIfInBounds_toArray, List.set_cons_zero, List.set_cons_succ, List.getElem_toArray, List.getElem_cons_succ, List.getElem_cons_zero]
          refine plan_o rfl (fun K hK => ?_)
          go_simp
          refine hK _ _ ⟨fun h => absurd h (by decide), ?_⟩
          clear hK K
          try simp only [Act.put, List.setIfInBounds_toArray, List.set_cons_zero, List.set_cons_succ, List.getElem_toArray, List.getElem_cons_succ, List.getElem_cons_zero]
          have HP7 := Lib.hid (show B1 (.pointer (some ⟨r, 0, none⟩)) 52 p (w6.setCell ⟨r, 1, none⟩ (.int .i64 (g : Int))) from HP6.out.other HPN.out.1 _)
          have H7 := Lib.hid (show RC s ext r b (g : Int) (fx c { gl := f.gl, pr := f.pr, cd := true, cnt := (nv : Int), n := g }) w (w6.setCell ⟨r, 1, none⟩ (.int .i64 (g : Int))) from H6.out.move HRB.out ((Mv.same H6.out.rd (Below.refl _ _)).put (g : Int)))
          obtain ⟨w7, hw7⟩ : ∃ w7, w7 = w6.setCell ⟨r, 1, none⟩ (.int .i64 (g : Int)) := ⟨_, rfl⟩
          rw [← hw7] at H7 HP7 ⊢
          clear hw7 k1 kf
          iterate 1
            refine plan_p (v := ?_) rfl (by rfl) (fun wx => ?_) ?_
            rotate_left
            · go_simp
              try with_reducible rfl
            simp only [Act.put, List.setIfInBounds_toArray, List.set_cons_zero, List.set_cons_succ, List.getElem_toArray, List.getElem_cons_succ, List.getElem_cons_zero]
          refine plan_end ?_
          go_wp2_with fail
          go_step3
          have hp3 := posOf_rd H7.out.rd
          refine ⟨rfl, ⟨k, ⟨f.gl, f.pr, true, (nv : Int), g⟩, Lib.hid ⟨HK.out, by have := HJ.out.2.1; have := HGN.out; simp only; omega, HGL.out, H7.out, HP7.out⟩, actF (by kernel_rfl)⟩, ?_⟩
          rw [hp3, HPS.out]
          have := HSZ.out; have := HGL.out; have := HGN.out
          omega
        · have HK := Lib.hid (HSK.out.trans (if_neg hnum))
          have hcases : nok = false ∨ (nok = true ∧ decide ((0 : Int) < (nv : Int)) = false ∧ decide (0 < nv) = false ∧ nv = 0) ∨ (nok = true ∧ decide ((0 : Int) < (nv : Int)) = true ∧ decide (0 < nv) = true ∧ f.cd = true) := by
            cases nok
            · exact .inl rfl
            · by_cases h : 0 < nv
              · refine .inr (.inr ⟨rfl, decide_eq_true (by omega), decide_eq_true h, ?_⟩)
                cases hcd : f.cd
                · exact absurd ⟨rfl, h, hcd⟩ hnum
                · rfl
              · exact .inr (.inl ⟨rfl, decide_eq_false (by omega), decide_eq_false h, by omega⟩)
          obtain ⟨cd, hcd⟩ : ∃ cd, f.cd = cd := ⟨_, rfl⟩
          rw [hcd] at hcases ⊢
          have HF2 := HF.out
          rw [HK.out] at HF2
          have HFF := Lib.hid HF2
          have HGF := Lib.hid HK.out
          clear hnum HNV HSK hcd HF2
          rcases hcases with rfl | ⟨rfl, g1, g1n, rfl⟩ | ⟨rfl, g1, g1n, rfl⟩
          all_goals
            go_upto_region 8 with fail
            rcases HFF.out with ⟨h119, hok, hm, hX⟩ | ⟨h119, hX, hm, hok⟩
            · have HTK := Lib.hid (take_m (w := w5.drew) HZ.out (H5.out.rd.stays (bD w5 1)) ⟨#[119]⟩ (f := false) (by rw [← h119, HL.out]))
              have HXX := Lib.hid (And.intro hok (And.intro hm hX))
              clear h119 hok hm hX
              have k0 := (HP5.out.stays (bD w5 1)).cell
              refine wp_region_plan (fun wx => wx.cell? ⟨p, 0, none⟩ = some (.pointer (some ⟨r, 0, none⟩))) [.l 0, .o 1, .p 2, .p 3, .p 5, .p 6, .p 7, .l 4, .o 8, .p 9, .p 10] [8] (by kernel_rfl) (by kernel_rfl) (by kernel_rfl) (by repeat (first | exact pq_body | refine pq_then ?_ | refine pq_jump ?_ | refine pq_block ?_)) (by kernel_rfl) ?_
              iterate 1
                refine plan_l (v := ?_) k0 rfl (by rfl) (fun wx hSw => ?_) ?_
                rotate_left
                · have u0 := hSw
                  go_simp
                  try with_reducible rfl
                simp only [Act.put, List.setIfInBounds_toArray, List.set_cons_zero, List.set_cons_succ, List.getElem_toArray, List.getElem_cons_zero]
              refine plan_o rfl (fun K hK => ?_)
              go_simp
              refine HTK.out.mono ?_
              rintro e w6 ⟨rfl, hv6⟩
              have hp6 := (HP5.out.stays (bD w5 1)).turned hv6.tu HPN.out.1
              refine hK _ _ ⟨fun _ _ => hp6.cell, ?_⟩
              clear hK K
              try simp only [Act.put, List.setIfInBounds_toArray, List.set_cons_zero, List.set_cons_succ, List.getElem_toArray, List.getElem_cons_succ, List.getElem_cons_zero]
              have HP6 := Lib.hid hp6
              have k0 := HP6.out.cell
              have H6 := Lib.hid (show RC s ext r b (f.n : Int) (fx c f) w w6 from (H5.out.below (bD w5 1)).move HRB.out hv6)
              clear hv6
              iterate 2
                refine plan_p (v := ?_) rfl (by rfl) (fun wx => ?_) ?_
                rotate_left
                · go_simp
                  try with_reducible rfl
                simp only [Act.put, List.setIfInBounds_toArray, List.set_cons_zero, List.set_cons_succ, List.getElem_toArray, List.getElem_cons_succ, List.getElem_cons_zero]
              iterate 3
                refine plan_skip rfl (by rfl) ?_
                simp only [Act.put, List.setIfInBounds_toArray, List.set_cons_zero, List.set_cons_succ, List.getElem_toArray, List.getElem_cons_succ, List.getElem_cons_zero]
              iterate 1
                refine plan_ls k0 rfl (by rfl) ?_
                simp only [Act.put, List.setIfInBounds_toArray, List.set_cons_zero, List.set_cons_succ, List.getElem_toArray, List.getElem_cons_succ, List.getElem_cons_zero]
              refine plan_os rfl (by rfl) ?_
              try simp only [Act.put, List.setIfInBounds_toArray, List.set_cons_zero, List.set_cons_succ, List.getElem_toArray, List.getElem_cons_succ, List.getElem_cons_zero]
              iterate 2
                refine plan_p (v := ?_) rfl (by rfl) (fun wx => ?_) ?_
                rotate_left
                · go_simp
                  try with_reducible rfl
                simp only [Act.put, List.setIfInBounds_toArray, List.set_cons_zero, List.set_cons_succ, List.getElem_toArray, List.getElem_cons_succ, List.getElem_cons_zero]
              refine plan_end ?_
              go_wp2_with fail
              simp only [Exit.jump]
              go_ret
              have h6 := H6.out
              obtain ⟨hok, rfl, rfl⟩ := HXX.out
              have e : ({ fx c G with file := ⟨#[]⟩ } : CX) = fx c f := by
                rw [HGF.out, ← HFL.out]
                rfl
              rw [e]
              exact ⟨by rw [hok]; rfl, h6⟩
            · obtain ⟨_, _, _, hml⟩ := oneF_nat h119
              have HTK := Lib.hid (take_m (w := w5.drew) HZ.out (H5.out.rd.stays (bD w5 1)) ⟨#[119]⟩ (f := true) (by rw [← h119, HL.out]))
              have HXX := Lib.hid (And.intro hX (And.intro hm hok))
              clear h119 hok hm hX hml
              have k0 := (HP5.out.stays (bD w5 1)).cell
              refine wp_region_plan (fun wx => wx.cell? ⟨p, 0, none⟩ = some (.pointer (some ⟨r, 0, none⟩))) [.l 0, .o 1, .p 2, .p 3, .p 5, .p 6, .p 7, .l 4, .o 8, .p 9, .p 10] [8] (by kernel_rfl) (by kernel_rfl) (by kernel_rfl) (by repeat (first | exact pq_body | refine pq_then ?_ | refine pq_jump ?_ | refine pq_block ?_)) (by kernel_rfl) ?_
              iterate 1
                refine plan_l (v := ?_) k0 rfl (by rfl) (fun wx hSw => ?_) ?_
                rotate_left
                · have u0 := hSw
                  go_simp
                  try with_reducible rfl
                simp only [Act.put, List.setIfInBounds_toArray, List.set_cons_zero, List.set_cons_succ, List.getElem_toArray, List.getElem_cons_zero]
              refine plan_o rfl (fun K hK => ?_)
              go_simp
              refine HTK.out.mono ?_
              rintro e w6 ⟨rfl, hv6⟩
              have hp6 := (HP5.out.stays (bD w5 1)).turned hv6.tu HPN.out.1
              refine hK _ _ ⟨fun _ _ => hp6.cell, ?_⟩
              clear hK K
              try simp only [Act.put, List.setIfInBounds_toArray, List.set_cons_zero, List.set_cons_succ, List.getElem_toArray, List.getElem_cons_succ, List.getElem_cons_zero]
              have HP6 := Lib.hid hp6
              have k0 := HP6.out.cell
              have H6 := Lib.hid (show RC s ext r b ((f.n + 1 : Nat) : Int) (fx c f) w w6 from (H5.out.below (bD w5 1)).move HRB.out hv6)
              clear hv6
              have HPA := Lib.hid (path_file HZ.out HRB.out H6.out.rd H6.out.cm (X := X) (q := m) (by rw [HXX.out.1, HL.out]) (by rw [HXX.out.2.1, HL.out]))
              iterate 5
                refine plan_p (v := ?_) rfl (by rfl) (fun wx => ?_) ?_
                rotate_left
                · go_simp
                  try with_reducible rfl
                simp only [Act.put, List.setIfInBounds_toArray, List.set_cons_zero, List.set_cons_succ, List.getElem_toArray, List.getElem_cons_succ, List.getElem_cons_zero]
              iterate 1
                refine plan_l (v := ?_) k0 rfl (by rfl) (fun wx hSw => ?_) ?_
                rotate_left
                · have u0 := hSw
                  go_simp
                  try with_reducible rfl
                simp only [Act.put, List.setIfInBounds_toArray, List.set_cons_zero, List.set_cons_succ, List.getElem_toArray, List.getElem_cons_succ, List.getElem_cons_zero]
              refine plan_o rfl (fun K hK => ?_)
              go_simp
              refine HPA.out.mono ?_
              rintro e w7 ⟨rfl, hrc⟩
              refine hK _ _ ⟨fun h => absurd h (by decide), ?_⟩
              clear hK K
              try simp only [Act.put, List.setIfInBounds_toArray, List.set_cons_zero, List.set_cons_succ, List.getElem_toArray, List.getElem_cons_succ, List.getElem_cons_zero]
              have H7 := Lib.hid (H6.out.trans hrc)
              clear hrc
              iterate 2
                refine plan_p (v := ?_) rfl (by rfl) (fun wx => ?_) ?_
                rotate_left
                · go_simp
                  try with_reducible rfl
                simp only [Act.put, List.setIfInBounds_toArray, List.set_cons_zero, List.set_cons_succ, List.getElem_toArray, List.getElem_cons_succ, List.getElem_cons_zero]
              refine plan_end ?_
              go_wp2_with fail
              simp only [Exit.jump]
              go_ret
              rw [HGF.out]
              exact ⟨by rw [HXX.out.2.2]; rfl, H7.out⟩
end Go.Proofs.Ytncbmdbfdjhkeaa
