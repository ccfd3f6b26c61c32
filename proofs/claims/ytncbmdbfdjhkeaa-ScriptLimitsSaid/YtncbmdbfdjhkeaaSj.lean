/-
  Package script: addresses. Condition: texts of at most 2000 bytes.
-/
import Derived.Test.YtncbmdbfdjhkeaaSi
namespace Go.Proofs.Ytncbmdbfdjhkeaa
open Go.RowKit Go.Deep Go.Sort

/-- What an address is: its kind, its line, its tree, and where what stands behind it begins. -/
noncomputable def adX (ext : Bool) (l : List UInt8) (n : Nat) : Option (Int × Int × Option PN × Nat) :=
  if (numF l (n : Int)).2.2 = true ∧ 0 < (numF l (n : Int)).1 then some (1, ((numF l (n : Int)).1 : Int), none, (numF l (n : Int)).2.1.toNat + blk (l.drop (numF l (n : Int)).2.1.toNat))
  else if oneF [36] l (n : Int) = true then some (2, 0, none, n + 1 + blk (l.drop (n + 1)))
  else if oneF [47] l (n : Int) = true then (patX ext l (n + 1) 47).map fun p => (if p.1 then 4 else 3, 0, p.2.1, p.2.2 + blk (l.drop p.2.2))
  else if oneF [92] l (n : Int) = true then (patX ext l (if n + 1 < l.length then n + 1 + 1 else n + 1) (anyB l (n + 1))).map fun p => (if p.1 then 4 else 3, 0, p.2.1, p.2.2 + blk (l.drop p.2.2))
  else some (0, 0, none, n + blk (l.drop n))
def AdA (s : ByteArray) (ext : Bool) (r b : Nat) (sel0 : Int → Int → CX) (sel : Int → Int → NV → CX) (x : Option (Int × Int × Option PN × Nat)) (W W' : World) : Prop := ∃ (m : Nat) (c' : CX), RC s ext r b (m : Int) c' W W' ∧ ∀ p, x = some p → m = p.2.2.2 ∧ match p.2.2.1 with
  | none => c' = sel0 p.1 p.2.1
  | some t => ∃ y, IsP (fun k => k < W.heap.size) W' t y ∧ c' = sel p.1 p.2.1 y
theorem num_nat {l : List UInt8} {n nv : Nat} {na : Int} (h : numF l (n : Int) = (nv, na, true)) (hn : n ≤ l.length) : ∃ q : Nat, na = (q : Int) ∧ q ≤ l.length := by
  unfold numF at h
  rw [if_pos (by omega)] at h
  split at h
  · injection h with h1 h2
    injection h2 with h2 h3
    refine ⟨n + dg (l.drop n), by rw [← h2, Int.toNat_natCast]; omega, ?_⟩
    have : dg (l.drop n) ≤ (l.drop n).length := (List.takeWhile_sublist _).length_le
    rw [List.length_drop] at this
    omega
  · injection h with h1 h2
    injection h2 with h2 h3
    cases h3
set_option maxRecDepth 100000 in
set_option maxHeartbeats 16000000 in
theorem address_from {s : ByteArray} {ext : Bool} {r b n : Nat} {c : CX} {w : World} (hz : s.size ≤ 2000) (hn : n ≤ s.size) (hM : MaxAt w) (hrb : r ≠ b) (h : Rd s ext r (n : Int) w) (hc : Cm c b w) (h0 : c.fk = 0 ∧ c.fl = 0) {x : Option (Int × Int × Option PN × Nat)} (hx : x = adX ext s.data.toList n) : Calls Try.prog 25 #[.pointer (some ⟨r, 0, none⟩), .pointer (some ⟨b, 2, none⟩)] w fun e w' => e = .returned (.bool x.isSome) ∧ AdA s ext r b (fun k l => { c with fk := k, fl := l }) (fun k l y => { c with fk := k, fl := l, fy := y }) x w w' := by
  obtain ⟨l, hl⟩ : ∃ l, l = s.data.toList := ⟨_, rfl⟩
  have HL := Lib.hid hl
  have HSZ := Lib.hid (show l.length = s.size by rw [hl]; simp)
  rw [← hl] at hx
  have HX := Lib.hid hx
  have HRB := Lib.hid hrb
  have HRL := Lib.hid h.lt
  have HBL := Lib.hid hc.lt
  have HMX := Lib.hid hM
  have HGR := Lib.hid (max_ne_rd hM h)
  have HGB := Lib.hid (max_ne_cm hM hc)
  have HR := Lib.hid (RC.start h hc)
  have HZ := Lib.hid hz
  have HN := Lib.hid hn
  have HC0 := Lib.hid h0
  have hnum := tk_number_is s (by omega) (n : Int) (by omega) (by omega)
  rw [← hl] at hnum
  unfold NumV at hnum
  obtain ⟨N, hN⟩ : ∃ N, N = numF l (n : Int) := ⟨_, rfl⟩
  rw [← hN] at hnum
  have HNV := Lib.hid hN
  have HNQ := Lib.hid fun k => Calls.quiet_of_same (hnum (w.drewN k))
  have k0 := h.text
  have k1 := h.at
  have HBL2 := Lib.hid (show ∀ (W : World) (q : Nat), Rd s ext r (q : Int) W → Calls Try.prog 11 #[.pointer (some ⟨r, 0, none⟩)] W (fun e w' => e = .returned (.tuple #[]) ∧ Mv s ext r ((q + blk (l.drop q) : Nat) : Int) W w') from fun W q hr => by
    have := blanks_m (n := (q : Int)) hz hr
    rw [← hl, blanks_nat] at this
    exact this)
  have HTK := Lib.hid (show ∀ (W : World) (q : Nat) (t : ByteArray) (f : Bool), Rd s ext r (q : Int) W → f = oneF t.data.toList l (q : Int) → Calls Try.prog 12 #[.pointer (some ⟨r, 0, none⟩), .string t] W (fun e w' => e = .returned (.bool f) ∧ Mv s ext r ((if f then q + 1 else q : Nat) : Int) W w') from fun W q t f hr hf => take_m hz hr t (by rw [hf, hl]))
  clear hl hx hrb h hc hM hz hn h0 hnum hN
  obtain ⟨nv, na, nok⟩ := N
  simp only at HNQ
  go_enter Try.func25, Try.ntmps25
  go_upto_region 2 with fail
  go_quiet (exact HNQ.out _)
  have H1 := Lib.hid (HR.out.below (bD w nq))
  have HMX1 := Lib.hid (HMX.out.below (bD w nq))
  obtain ⟨w1, hw1⟩ : ∃ w1, w1 = w.drewN nq := ⟨_, rfl⟩
  rw [← hw1] at H1 HMX1 ⊢
  clear hw1 k0 k1 HNQ
  by_cases hnum : nok = true ∧ 0 < nv
  · obtain ⟨rfl, hpos⟩ := hnum
    have g1 : decide ((0 : Int) < (nv : Int)) = true := decide_eq_true (by omega)
    have g1n : decide (0 < nv) = true := decide_eq_true hpos
    obtain ⟨q, hq, hql⟩ := num_nat HNV.out.symm (by have := HN.out; have := HSZ.out; omega)
    subst hq
    have HX2 := Lib.hid (show x = some (1, (nv : Int), none, q + blk (l.drop q)) by rw [HX.out]; unfold adX; rw [← HNV.out]; simp [hpos])
    have kc := H1.out.cm.cell 2 _ rfl
    have kf := H1.out.cm.free 2
    have H2 := Lib.hid (H1.out.set HRB.out 2 (.int .i64 1) { c with fk := 1 } (by kernel_rfl))
    have kc2 := H2.out.cm.cell 3 _ rfl
    have kf2 := H2.out.cm.free 3
    have H3 := Lib.hid (H2.out.set HRB.out 3 (.int .i64 (nv : Int)) { c with fk := 1, fl := (nv : Int) } (by kernel_rfl))
    have kc3 := H3.out.rd.at
    have kf3 := H3.out.rd.free 1
    have H4 := Lib.hid (H3.out.move HRB.out ((Mv.same H3.out.rd (Below.refl _ _)).put (q : Int)))
    clear hpos
    go_upto_region 11 with fail
    obtain ⟨w4, hw4⟩ : ∃ w4, w4 = ((w1.setCell ⟨b, 2, none⟩ (.int .i64 1)).setCell ⟨b, 3, none⟩ (.int .i64 (nv : Int))).setCell ⟨r, 1, none⟩ (.int .i64 (q : Int)) := ⟨_, rfl⟩
    rw [← hw4] at H4 ⊢
    clear hw4 kc kf kc2 kf2 kc3 kf3 H2 H3
    go_wp2_with fail
    go_at_call 11
    with_reducible refine (HBL2.out _ _ H4.out.rd).mono ?_
    rintro e w8 ⟨rfl, hv8⟩
    have H8 := Lib.hid (H4.out.move HRB.out hv8)
    have HV8 := Lib.hid hv8.tu
    clear hv8
    go_wp2_with fail
    go_ret
    refine ⟨by rw [HX2.out]; rfl, _, _, H8.out, fun p hp => ?_⟩
    rw [HX2.out] at hp
    injection hp with hp
    subst hp
    exact ⟨rfl, rfl⟩
  have HXN := Lib.hid (show x = if oneF [36] l (n : Int) = true then some (2, 0, none, n + 1 + blk (l.drop (n + 1)))
    else if oneF [47] l (n : Int) = true then (patX ext l (n + 1) 47).map fun p => (if p.1 then 4 else 3, 0, p.2.1, p.2.2 + blk (l.drop p.2.2))
    else if oneF [92] l (n : Int) = true then (patX ext l (if n + 1 < l.length then n + 1 + 1 else n + 1) (anyB l (n + 1))).map fun p => (if p.1 then 4 else 3, 0, p.2.1, p.2.2 + blk (l.drop p.2.2))
    else some (0, 0, none, n + blk (l.drop n)) by
    rw [HX.out]
    unfold adX
    rw [← HNV.out]
    exact if_neg hnum)
  have hdn : nok = false ∨ (nok = true ∧ nv = 0) := by
    cases nok
    · exact .inl rfl
    · exact .inr ⟨rfl, by have : ¬ 0 < nv := fun h2 => hnum ⟨rfl, h2⟩; omega⟩
  clear hnum HX HNV
  rcases hdn with rfl | ⟨rfl, rfl⟩
  all_goals
    cases hd36 : oneF [36] l (n : Int) with
    | true =>
      rw [hd36, if_pos rfl] at HXN
      have HT := Lib.hid (HTK.out w1 n ⟨#[36]⟩ true H1.out.rd hd36.symm)
      clear hd36 HTK
      go_wp2_with fail
      go_at_call 12
      with_reducible refine HT.out.mono ?_
      rintro e w2 ⟨rfl, hv2⟩
      have H2 := Lib.hid (show RC s ext r b ((n + 1 : Nat) : Int) c w w2 from H1.out.move HRB.out hv2)
      clear hv2
      have kc := H2.out.cm.cell 2 _ rfl
      have kf := H2.out.cm.free 2
      go_upto_region 11 with fail
      have H4 := Lib.hid (H2.out.set HRB.out 2 (.int .i64 2) { c with fk := 2 } (by kernel_rfl))
      obtain ⟨w4, hw4⟩ : ∃ w4, w4 = w2.setCell ⟨b, 2, none⟩ (.int .i64 2) := ⟨_, rfl⟩
      rw [← hw4] at H4 ⊢
      clear hw4 kc kf
      go_wp2_with fail
      go_at_call 11
      with_reducible refine (HBL2.out _ _ H4.out.rd).mono ?_
      rintro e w8 ⟨rfl, hv8⟩
      have H8 := Lib.hid (H4.out.move HRB.out hv8)
      have HV8 := Lib.hid hv8.tu
      clear hv8
      go_wp2_with fail
      go_ret
      refine ⟨by rw [HXN.out]; rfl, _, _, H8.out, fun p hp => ?_⟩
      rw [HXN.out] at hp
      injection hp with hp
      subst hp
      refine ⟨rfl, ?_⟩
      simp only
      rw [← HC0.out.2]
    | false =>
      rw [hd36, if_neg (by decide)] at HXN
      have HT36 := Lib.hid (HTK.out w1 n ⟨#[36]⟩ false H1.out.rd hd36.symm)
      clear hd36
      go_wp2_with fail
      go_at_call 12
      with_reducible refine HT36.out.mono ?_
      rintro e w2 ⟨rfl, hv2⟩
      have H2 := Lib.hid (show RC s ext r b (n : Int) c w w2 from H1.out.move HRB.out hv2)
      clear hv2 HT36
      cases hd47 : oneF [47] l (n : Int) with
      | true =>
        rw [hd47, if_pos rfl] at HXN
        have HT := Lib.hid (HTK.out w2 n ⟨#[47]⟩ true H2.out.rd hd47.symm)
        clear hd47 HTK
        go_wp2_with fail
        go_at_call 12
        with_reducible refine HT.out.mono ?_
        rintro e w3 ⟨rfl, hv3⟩
        have H3 := Lib.hid (show RC s ext r b ((n + 1 : Nat) : Int) c w w3 from H2.out.move HRB.out hv3)
        clear hv3 HT
        have HMX3 := Lib.hid (HMX.out.keep H3.out.tu (by have := HGR.out; have := HGB.out; omega))
        have HMM := Lib.hid (matched_from HZ.out HMX3.out HRB.out H3.out.rd H3.out.cm 47 (x := patX ext l (n + 1) 47) (by rw [HL.out]))
        rw [show (((47 : UInt8).toNat : Nat) : Int) = 47 from rfl] at HMM
        obtain ⟨y0, hy0⟩ : ∃ y0, y0 = patX ext l (n + 1) 47 := ⟨_, rfl⟩
        rw [← hy0] at HMM HXN
        clear hy0
        go_wp2_with fail
        go_at_call 43
        with_reducible refine HMM.out.mono ?_
        rintro e w5 ⟨rfl, m, c', h5, hp5⟩
        have H5 := Lib.hid (H3.out.trans h5)
        have HP5 := Lib.hid hp5
        have HS5 := Lib.hid (show w.heap.size ≤ w3.heap.size from H3.out.tu.size)
        clear h5 hp5 HMM
        go_wp2_with fail
        go_at_call 11
        with_reducible refine (HBL2.out _ _ H5.out.rd).mono ?_
        rintro e w8 ⟨rfl, hv8⟩
        have H8 := Lib.hid (H5.out.move HRB.out hv8)
        have HV8 := Lib.hid hv8.tu
        clear hv8
        go_wp2_with fail
        go_ret
        refine ⟨by rw [HXN.out, Option.isSome_map]; rfl, _, _, H8.out, fun p hp => ?_⟩
        rw [HXN.out] at hp
        cases y0 with
        | none => cases hp
        | some p0 =>
          injection hp with hp
          subst hp
          obtain ⟨h1, h2⟩ := HP5.out p0 rfl
          refine ⟨by rw [h1], ?_⟩
          simp only
          cases h4 : p0.2.1 with
          | none =>
            rw [h4] at h2
            simp only at h2 ⊢
            rw [h2, ← HC0.out.2]
          | some tt =>
            rw [h4] at h2
            simp only at h2 ⊢
            obtain ⟨y, hy, h2⟩ := h2
            exact ⟨y, (hy.weaken fun k hk => Nat.lt_of_lt_of_le hk HS5.out).turned (HV8.out.wider fun k _ hk => by rw [hk]; exact HRL.out), by rw [h2, ← HC0.out.2]⟩
      | false =>
        rw [hd47, if_neg (by decide)] at HXN
        have HT47 := Lib.hid (HTK.out w2 n ⟨#[47]⟩ false H2.out.rd hd47.symm)
        clear hd47
        go_wp2_with fail
        go_at_call 12
        with_reducible refine HT47.out.mono ?_
        rintro e w3 ⟨rfl, hv3⟩
        have H3 := Lib.hid (show RC s ext r b (n : Int) c w w3 from H2.out.move HRB.out hv3)
        clear hv3 HT47 H2
        cases hd92 : oneF [92] l (n : Int) with
        | true =>
          rw [hd92, if_pos rfl] at HXN
          obtain ⟨_, _, _, hnl⟩ := oneF_nat hd92
          have HNL := Lib.hid hnl
          have HT := Lib.hid (HTK.out w3 n ⟨#[92]⟩ true H3.out.rd hd92.symm)
          clear hd92 HTK hnl
          go_wp2_with fail
          go_at_call 12
          with_reducible refine HT.out.mono ?_
          rintro e w4 ⟨rfl, hv4⟩
          have H4 := Lib.hid (show RC s ext r b ((n + 1 : Nat) : Int) c w w4 from H3.out.move HRB.out hv4)
          clear hv4 HT H3
          have HAN := Lib.hid (any_m HZ.out (by have := HNL.out; have := HSZ.out; omega) H4.out.rd)
          rw [← HL.out, ← HSZ.out] at HAN
          obtain ⟨dl, hdl⟩ : ∃ dl, dl = anyB l (n + 1) := ⟨_, rfl⟩
          obtain ⟨n2, hn2⟩ : ∃ n2 : Nat, n2 = (if n + 1 < l.length then n + 1 + 1 else n + 1) := ⟨_, rfl⟩
          rw [← hdl, ← hn2] at HAN HXN
          clear hdl hn2
          go_wp2_with fail
          go_at_call 18
          with_reducible refine HAN.out.mono ?_
          rintro e w6 ⟨rfl, hv6⟩
          have H6 := Lib.hid (show RC s ext r b ((n2 : Nat) : Int) c w w6 from H4.out.move HRB.out hv6)
          clear hv6 HAN H4
          have HMX3 := Lib.hid (HMX.out.keep H6.out.tu (by have := HGR.out; have := HGB.out; omega))
          have HMM := Lib.hid (matched_from HZ.out HMX3.out HRB.out H6.out.rd H6.out.cm dl (x := patX ext l n2 dl) (by rw [HL.out]))
          obtain ⟨y0, hy0⟩ : ∃ y0, y0 = patX ext l n2 dl := ⟨_, rfl⟩
          rw [← hy0] at HMM HXN
          clear hy0
          go_wp2_with fail
          go_at_call 43
          with_reducible refine HMM.out.mono ?_
          rintro e w5 ⟨rfl, m, c', h5, hp5⟩
          have H5 := Lib.hid (H6.out.trans h5)
          have HP5 := Lib.hid hp5
          have HS5 := Lib.hid (show w.heap.size ≤ w6.heap.size from H6.out.tu.size)
          clear h5 hp5 HMM
          go_wp2_with fail
          go_at_call 11
          with_reducible refine (HBL2.out _ _ H5.out.rd).mono ?_
          rintro e w8 ⟨rfl, hv8⟩
          have H8 := Lib.hid (H5.out.move HRB.out hv8)
          have HV8 := Lib.hid hv8.tu
          clear hv8
          go_wp2_with fail
          go_ret
          refine ⟨by rw [HXN.out, Option.isSome_map]; rfl, _, _, H8.out, fun p hp => ?_⟩
          rw [HXN.out] at hp
          cases y0 with
          | none => cases hp
          | some p0 =>
            injection hp with hp
            subst hp
            obtain ⟨h1, h2⟩ := HP5.out p0 rfl
            refine ⟨by rw [h1], ?_⟩
            simp only
            cases h4 : p0.2.1 with
            | none =>
              rw [h4] at h2
              simp only at h2 ⊢
              rw [h2, ← HC0.out.2]
            | some tt =>
              rw [h4] at h2
              simp only at h2 ⊢
              obtain ⟨y, hy, h2⟩ := h2
              exact ⟨y, (hy.weaken fun k hk => Nat.lt_of_lt_of_le hk HS5.out).turned (HV8.out.wider fun k _ hk => by rw [hk]; exact HRL.out), by rw [h2, ← HC0.out.2]⟩
        | false =>
          rw [hd92, if_neg (by decide)] at HXN
          have HT92 := Lib.hid (HTK.out w3 n ⟨#[92]⟩ false H3.out.rd hd92.symm)
          clear hd92 HTK
          go_wp2_with fail
          go_at_call 12
          with_reducible refine HT92.out.mono ?_
          rintro e w4 ⟨rfl, hv4⟩
          have H4 := Lib.hid (show RC s ext r b (n : Int) c w w4 from H3.out.move HRB.out hv4)
          clear hv4 HT92 H3
          go_wp2_with fail
          go_at_call 11
          with_reducible refine (HBL2.out _ _ H4.out.rd).mono ?_
          rintro e w8 ⟨rfl, hv8⟩
          have H8 := Lib.hid (H4.out.move HRB.out hv8)
          have HV8 := Lib.hid hv8.tu
          clear hv8
          go_wp2_with fail
          go_ret
          refine ⟨by rw [HXN.out]; rfl, _, _, H8.out, fun p hp => ?_⟩
          rw [HXN.out] at hp
          injection hp with hp
          subst hp
          refine ⟨rfl, ?_⟩
          simp only
          cases c
          obtain ⟨rfl, rfl⟩ := HC0.out
          rfl
set_option maxRecDepth 100000 in
set_option maxHeartbeats 16000000 in
theorem address_to {s : ByteArray} {ext : Bool} {r b n : Nat} {c : CX} {w : World} (hz : s.size ≤ 2000) (hn : n ≤ s.size) (hM : MaxAt w) (hrb : r ≠ b) (h : Rd s ext r (n : Int) w) (hc : Cm c b w) (h0 : c.tk = 0 ∧ c.tl = 0) {x : Option (Int × Int × Option PN × Nat)} (hx : x = adX ext s.data.toList n) : Calls Try.prog 25 #[.pointer (some ⟨r, 0, none⟩), .pointer (some ⟨b, 13, none⟩)] w fun e w' => e = .returned (.bool x.isSome) ∧ AdA s ext r b (fun k l => { c with tk := k, tl := l }) (fun k l y => { c with tk := k, tl := l, ty := y }) x w w' := by
  obtain ⟨l, hl⟩ : ∃ l, l = s.data.toList := ⟨_, rfl⟩
  have HL := Lib.hid hl
  have HSZ := Lib.hid (show l.length = s.size by rw [hl]; simp)
  rw [← hl] at hx
  have HX := Lib.hid hx
  have HRB := Lib.hid hrb
  have HRL := Lib.hid h.lt
  have HBL := Lib.hid hc.lt
  have HMX := Lib.hid hM
  have HGR := Lib.hid (max_ne_rd hM h)
  have HGB := Lib.hid (max_ne_cm hM hc)
  have HR := Lib.hid (RC.start h hc)
  have HZ := Lib.hid hz
  have HN := Lib.hid hn
  have HC0 := Lib.hid h0
  have hnum := tk_number_is s (by omega) (n : Int) (by omega) (by omega)
  rw [← hl] at hnum
  unfold NumV at hnum
  obtain ⟨N, hN⟩ : ∃ N, N = numF l (n : Int) := ⟨_, rfl⟩
  rw [← hN] at hnum
  have HNV := Lib.hid hN
  have HNQ := Lib.hid fun k => Calls.quiet_of_same (hnum (w.drewN k))
  have k0 := h.text
  have k1 := h.at
  have HBL2 := Lib.hid (show ∀ (W : World) (q : Nat), Rd s ext r (q : Int) W → Calls Try.prog 11 #[.pointer (some ⟨r, 0, none⟩)] W (fun e w' => e = .returned (.tuple #[]) ∧ Mv s ext r ((q + blk (l.drop q) : Nat) : Int) W w') from fun W q hr => by
    have := blanks_m (n := (q : Int)) hz hr
    rw [← hl, blanks_nat] at this
    exact this)
  have HTK := Lib.hid (show ∀ (W : World) (q : Nat) (t : ByteArray) (f : Bool), Rd s ext r (q : Int) W → f = oneF t.data.toList l (q : Int) → Calls Try.prog 12 #[.pointer (some ⟨r, 0, none⟩), .string t] W (fun e w' => e = .returned (.bool f) ∧ Mv s ext r ((if f then q + 1 else q : Nat) : Int) W w') from fun W q t f hr hf => take_m hz hr t (by rw [hf, hl]))
  clear hl hx hrb h hc hM hz hn h0 hnum hN
  obtain ⟨nv, na, nok⟩ := N
  simp only at HNQ
  go_enter Try.func25, Try.ntmps25
  go_upto_region 2 with fail
  go_quiet (exact HNQ.out _)
  have H1 := Lib.hid (HR.out.below (bD w nq))
  have HMX1 := Lib.hid (HMX.out.below (bD w nq))
  obtain ⟨w1, hw1⟩ : ∃ w1, w1 = w.drewN nq := ⟨_, rfl⟩
  rw [← hw1] at H1 HMX1 ⊢
  clear hw1 k0 k1 HNQ
  by_cases hnum : nok = true ∧ 0 < nv
  · obtain ⟨rfl, hpos⟩ := hnum
    have g1 : decide ((0 : Int) < (nv : Int)) = true := decide_eq_true (by omega)
    have g1n : decide (0 < nv) = true := decide_eq_true hpos
    obtain ⟨q, hq, hql⟩ := num_nat HNV.out.symm (by have := HN.out; have := HSZ.out; omega)
    subst hq
    have HX2 := Lib.hid (show x = some (1, (nv : Int), none, q + blk (l.drop q)) by rw [HX.out]; unfold adX; rw [← HNV.out]; simp [hpos])
    have kc := H1.out.cm.cell 13 _ rfl
    have kf := H1.out.cm.free 13
    have H2 := Lib.hid (H1.out.set HRB.out 13 (.int .i64 1) { c with tk := 1 } (by kernel_rfl))
    have kc2 := H2.out.cm.cell 14 _ rfl
    have kf2 := H2.out.cm.free 14
    have H3 := Lib.hid (H2.out.set HRB.out 14 (.int .i64 (nv : Int)) { c with tk := 1, tl := (nv : Int) } (by kernel_rfl))
    have kc3 := H3.out.rd.at
    have kf3 := H3.out.rd.free 1
    have H4 := Lib.hid (H3.out.move HRB.out ((Mv.same H3.out.rd (Below.refl _ _)).put (q : Int)))
    clear hpos
    go_upto_region 11 with fail
    obtain ⟨w4, hw4⟩ : ∃ w4, w4 = ((w1.setCell ⟨b, 13, none⟩ (.int .i64 1)).setCell ⟨b, 14, none⟩ (.int .i64 (nv : Int))).setCell ⟨r, 1, none⟩ (.int .i64 (q : Int)) := ⟨_, rfl⟩
    rw [← hw4] at H4 ⊢
    clear hw4 kc kf kc2 kf2 kc3 kf3 H2 H3
    go_wp2_with fail
    go_at_call 11
    with_reducible refine (HBL2.out _ _ H4.out.rd).mono ?_
    rintro e w8 ⟨rfl, hv8⟩
    have H8 := Lib.hid (H4.out.move HRB.out hv8)
    have HV8 := Lib.hid hv8.tu
    clear hv8
    go_wp2_with fail
    go_ret
    refine ⟨by rw [HX2.out]; rfl, _, _, H8.out, fun p hp => ?_⟩
    rw [HX2.out] at hp
    injection hp with hp
    subst hp
    exact ⟨rfl, rfl⟩
  have HXN := Lib.hid (show x = if oneF [36] l (n : Int) = true then some (2, 0, none, n + 1 + blk (l.drop (n + 1)))
    else if oneF [47] l (n : Int) = true then (patX ext l (n + 1) 47).map fun p => (if p.1 then 4 else 3, 0, p.2.1, p.2.2 + blk (l.drop p.2.2))
    else if oneF [92] l (n : Int) = true then (patX ext l (if n + 1 < l.length then n + 1 + 1 else n + 1) (anyB l (n + 1))).map fun p => (if p.1 then 4 else 3, 0, p.2.1, p.2.2 + blk (l.drop p.2.2))
    else some (0, 0, none, n + blk (l.drop n)) by
    rw [HX.out]
    unfold adX
    rw [← HNV.out]
    exact if_neg hnum)
  have hdn : nok = false ∨ (nok = true ∧ nv = 0) := by
    cases nok
    · exact .inl rfl
    · exact .inr ⟨rfl, by have : ¬ 0 < nv := fun h2 => hnum ⟨rfl, h2⟩; omega⟩
  clear hnum HX HNV
  rcases hdn with rfl | ⟨rfl, rfl⟩
  all_goals
    cases hd36 : oneF [36] l (n : Int) with
    | true =>
      rw [hd36, if_pos rfl] at HXN
      have HT := Lib.hid (HTK.out w1 n ⟨#[36]⟩ true H1.out.rd hd36.symm)
      clear hd36 HTK
      go_wp2_with fail
      go_at_call 12
      with_reducible refine HT.out.mono ?_
      rintro e w2 ⟨rfl, hv2⟩
      have H2 := Lib.hid (show RC s ext r b ((n + 1 : Nat) : Int) c w w2 from H1.out.move HRB.out hv2)
      clear hv2
      have kc := H2.out.cm.cell 13 _ rfl
      have kf := H2.out.cm.free 13
      go_upto_region 11 with fail
      have H4 := Lib.hid (H2.out.set HRB.out 13 (.int .i64 2) { c with tk := 2 } (by kernel_rfl))
      obtain ⟨w4, hw4⟩ : ∃ w4, w4 = w2.setCell ⟨b, 13, none⟩ (.int .i64 2) := ⟨_, rfl⟩
      rw [← hw4] at H4 ⊢
      clear hw4 kc kf
      go_wp2_with fail
      go_at_call 11
      with_reducible refine (HBL2.out _ _ H4.out.rd).mono ?_
      rintro e w8 ⟨rfl, hv8⟩
      have H8 := Lib.hid (H4.out.move HRB.out hv8)
      have HV8 := Lib.hid hv8.tu
      clear hv8
      go_wp2_with fail
      go_ret
      refine ⟨by rw [HXN.out]; rfl, _, _, H8.out, fun p hp => ?_⟩
      rw [HXN.out] at hp
      injection hp with hp
      subst hp
      refine ⟨rfl, ?_⟩
      simp only
      rw [← HC0.out.2]
    | false =>
      rw [hd36, if_neg (by decide)] at HXN
      have HT36 := Lib.hid (HTK.out w1 n ⟨#[36]⟩ false H1.out.rd hd36.symm)
      clear hd36
      go_wp2_with fail
      go_at_call 12
      with_reducible refine HT36.out.mono ?_
      rintro e w2 ⟨rfl, hv2⟩
      have H2 := Lib.hid (show RC s ext r b (n : Int) c w w2 from H1.out.move HRB.out hv2)
      clear hv2 HT36
      cases hd47 : oneF [47] l (n : Int) with
      | true =>
        rw [hd47, if_pos rfl] at HXN
        have HT := Lib.hid (HTK.out w2 n ⟨#[47]⟩ true H2.out.rd hd47.symm)
        clear hd47 HTK
        go_wp2_with fail
        go_at_call 12
        with_reducible refine HT.out.mono ?_
        rintro e w3 ⟨rfl, hv3⟩
        have H3 := Lib.hid (show RC s ext r b ((n + 1 : Nat) : Int) c w w3 from H2.out.move HRB.out hv3)
        clear hv3 HT
        have HMX3 := Lib.hid (HMX.out.keep H3.out.tu (by have := HGR.out; have := HGB.out; omega))
        have HMM := Lib.hid (matched_to HZ.out HMX3.out HRB.out H3.out.rd H3.out.cm 47 (x := patX ext l (n + 1) 47) (by rw [HL.out]))
        rw [show (((47 : UInt8).toNat : Nat) : Int) = 47 from rfl] at HMM
        obtain ⟨y0, hy0⟩ : ∃ y0, y0 = patX ext l (n + 1) 47 := ⟨_, rfl⟩
        rw [← hy0] at HMM HXN
        clear hy0
        go_wp2_with fail
        go_at_call 43
        with_reducible refine HMM.out.mono ?_
        rintro e w5 ⟨rfl, m, c', h5, hp5⟩
        have H5 := Lib.hid (H3.out.trans h5)
        have HP5 := Lib.hid hp5
        have HS5 := Lib.hid (show w.heap.size ≤ w3.heap.size from H3.out.tu.size)
        clear h5 hp5 HMM
        go_wp2_with fail
        go_at_call 11
        with_reducible refine (HBL2.out _ _ H5.out.rd).mono ?_
        rintro e w8 ⟨rfl, hv8⟩
        have H8 := Lib.hid (H5.out.move HRB.out hv8)
        have HV8 := Lib.hid hv8.tu
        clear hv8
        go_wp2_with fail
        go_ret
        refine ⟨by rw [HXN.out, Option.isSome_map]; rfl, _, _, H8.out, fun p hp => ?_⟩
        rw [HXN.out] at hp
        cases y0 with
        | none => cases hp
        | some p0 =>
          injection hp with hp
          subst hp
          obtain ⟨h1, h2⟩ := HP5.out p0 rfl
          refine ⟨by rw [h1], ?_⟩
          simp only
          cases h4 : p0.2.1 with
          | none =>
            rw [h4] at h2
            simp only at h2 ⊢
            rw [h2, ← HC0.out.2]
          | some tt =>
            rw [h4] at h2
            simp only at h2 ⊢
            obtain ⟨y, hy, h2⟩ := h2
            exact ⟨y, (hy.weaken fun k hk => Nat.lt_of_lt_of_le hk HS5.out).turned (HV8.out.wider fun k _ hk => by rw [hk]; exact HRL.out), by rw [h2, ← HC0.out.2]⟩
      | false =>
        rw [hd47, if_neg (by decide)] at HXN
        have HT47 := Lib.hid (HTK.out w2 n ⟨#[47]⟩ false H2.out.rd hd47.symm)
        clear hd47
        go_wp2_with fail
        go_at_call 12
        with_reducible refine HT47.out.mono ?_
        rintro e w3 ⟨rfl, hv3⟩
        have H3 := Lib.hid (show RC s ext r b (n : Int) c w w3 from H2.out.move HRB.out hv3)
        clear hv3 HT47 H2
        cases hd92 : oneF [92] l (n : Int) with
        | true =>
          rw [hd92, if_pos rfl] at HXN
          obtain ⟨_, _, _, hnl⟩ := oneF_nat hd92
          have HNL := Lib.hid hnl
          have HT := Lib.hid (HTK.out w3 n ⟨#[92]⟩ true H3.out.rd hd92.symm)
          clear hd92 HTK hnl
          go_wp2_with fail
          go_at_call 12
          with_reducible refine HT.out.mono ?_
          rintro e w4 ⟨rfl, hv4⟩
          have H4 := Lib.hid (show RC s ext r b ((n + 1 : Nat) : Int) c w w4 from H3.out.move HRB.out hv4)
          clear hv4 HT H3
          have HAN := Lib.hid (any_m HZ.out (by have := HNL.out; have := HSZ.out; omega) H4.out.rd)
          rw [← HL.out, ← HSZ.out] at HAN
          obtain ⟨dl, hdl⟩ : ∃ dl, dl = anyB l (n + 1) := ⟨_, rfl⟩
          obtain ⟨n2, hn2⟩ : ∃ n2 : Nat, n2 = (if n + 1 < l.length then n + 1 + 1 else n + 1) := ⟨_, rfl⟩
          rw [← hdl, ← hn2] at HAN HXN
          clear hdl hn2
          go_wp2_with fail
          go_at_call 18
          with_reducible refine HAN.out.mono ?_
          rintro e w6 ⟨rfl, hv6⟩
          have H6 := Lib.hid (show RC s ext r b ((n2 : Nat) : Int) c w w6 from H4.out.move HRB.out hv6)
          clear hv6 HAN H4
          have HMX3 := Lib.hid (HMX.out.keep H6.out.tu (by have := HGR.out; have := HGB.out; omega))
          have HMM := Lib.hid (matched_to HZ.out HMX3.out HRB.out H6.out.rd H6.out.cm dl (x := patX ext l n2 dl) (by rw [HL.out]))
          obtain ⟨y0, hy0⟩ : ∃ y0, y0 = patX ext l n2 dl := ⟨_, rfl⟩
          rw [← hy0] at HMM HXN
          clear hy0
          go_wp2_with fail
          go_at_call 43
          with_reducible refine HMM.out.mono ?_
          rintro e w5 ⟨rfl, m, c', h5, hp5⟩
          have H5 := Lib.hid (H6.out.trans h5)
          have HP5 := Lib.hid hp5
          have HS5 := Lib.hid (show w.heap.size ≤ w6.heap.size from H6.out.tu.size)
          clear h5 hp5 HMM
          go_wp2_with fail
          go_at_call 11
          with_reducible refine (HBL2.out _ _ H5.out.rd).mono ?_
          rintro e w8 ⟨rfl, hv8⟩
          have H8 := Lib.hid (H5.out.move HRB.out hv8)
          have HV8 := Lib.hid hv8.tu
          clear hv8
          go_wp2_with fail
          go_ret
          refine ⟨by rw [HXN.out, Option.isSome_map]; rfl, _, _, H8.out, fun p hp => ?_⟩
          rw [HXN.out] at hp
          cases y0 with
          | none => cases hp
          | some p0 =>
            injection hp with hp
            subst hp
            obtain ⟨h1, h2⟩ := HP5.out p0 rfl
            refine ⟨by rw [h1], ?_⟩
            simp only
            cases h4 : p0.2.1 with
            | none =>
              rw [h4] at h2
              simp only at h2 ⊢
              rw [h2, ← HC0.out.2]
            | some tt =>
              rw [h4] at h2
              simp only at h2 ⊢
              obtain ⟨y, hy, h2⟩ := h2
              exact ⟨y, (hy.weaken fun k hk => Nat.lt_of_lt_of_le hk HS5.out).turned (HV8.out.wider fun k _ hk => by rw [hk]; exact HRL.out), by rw [h2, ← HC0.out.2]⟩
        | false =>
          rw [hd92, if_neg (by decide)] at HXN
          have HT92 := Lib.hid (HTK.out w3 n ⟨#[92]⟩ false H3.out.rd hd92.symm)
          clear hd92 HTK
          go_wp2_with fail
          go_at_call 12
          with_reducible refine HT92.out.mono ?_
          rintro e w4 ⟨rfl, hv4⟩
          have H4 := Lib.hid (show RC s ext r b (n : Int) c w w4 from H3.out.move HRB.out hv4)
          clear hv4 HT92 H3
          go_wp2_with fail
          go_at_call 11
          with_reducible refine (HBL2.out _ _ H4.out.rd).mono ?_
          rintro e w8 ⟨rfl, hv8⟩
          have H8 := Lib.hid (H4.out.move HRB.out hv8)
          have HV8 := Lib.hid hv8.tu
          clear hv8
          go_wp2_with fail
          go_ret
          refine ⟨by rw [HXN.out]; rfl, _, _, H8.out, fun p hp => ?_⟩
          rw [HXN.out] at hp
          injection hp with hp
          subst hp
          refine ⟨rfl, ?_⟩
          simp only
          cases c
          obtain ⟨rfl, rfl⟩ := HC0.out
          rfl
end Go.Proofs.Ytncbmdbfdjhkeaa
