/-
  Package script: both addresses of a command. Condition: texts of at most 2000 bytes.
-/
import Derived.Test.YtncbmdbfdjhkeaaSj
namespace Go.Proofs.Ytncbmdbfdjhkeaa
open Go.RowKit Go.Deep Go.Sort

/-- How many addresses a command has. -/
def cntA (fk tk : Int) : Int := cond (tk != 0) 2 (cond (fk != 0) 1 0)
set_option maxRecDepth 100000 in
set_option maxHeartbeats 8000000 in
theorem count_m {b : Nat} {c : CX} {w : World} (hc : Cm c b w) : Calls Try.prog 20 #[.pointer (some ⟨b, 0, none⟩)] w fun e w' => e = .returned (.int .i64 (cntA c.fk c.tk)) ∧ Below w.heap.size w w' := by
  have k1 := hc.cell 13 _ rfl
  have k2 := hc.cell 2 _ rfl
  unfold cntA
  clear hc
  cases h1 : (c.tk != 0) with
  | true =>
    have h1n : (c.tk == 0) = false := by simpa [bne] using h1
    go_enter Try.func20, Try.ntmps20
    go_wp2_with fail
    go_ret
    exact ⟨rfl, Below.refl _ _⟩
  | false =>
    have h1n : (c.tk == 0) = true := by simpa [bne] using h1
    cases h2 : (c.fk != 0) with
    | true =>
      have h2n : (c.fk == 0) = false := by simpa [bne] using h2
      go_enter Try.func20, Try.ntmps20
      go_wp2_with fail
      go_ret
      exact ⟨rfl, Below.refl _ _⟩
    | false =>
      have h2n : (c.fk == 0) = true := by simpa [bne] using h2
      go_enter Try.func20, Try.ntmps20
      go_wp2_with fail
      go_ret
      exact ⟨rfl, Below.refl _ _⟩
/-- With a second address. -/
def secX (a : Int × Int × Option PN) (z : Option (Int × Int × Option PN × Nat)) : Option ((Int × Int × Option PN) × (Int × Int × Option PN) × Nat) :=
  match z with
  | none => none
  | some (k2, ln2, t2, m2) => if k2 = 0 then none else some (a, (k2, ln2, t2), m2)
/-- What the addresses of a command are. -/
noncomputable def adsX (ext : Bool) (l : List UInt8) (n : Nat) : Option ((Int × Int × Option PN) × (Int × Int × Option PN) × Nat) :=
  match adX ext l n with
  | none => none
  | some (k, ln, t, m) => if k = 0 then some ((k, ln, t), (0, 0, none), m) else if oneF [44] l (m : Int) = true then secX (k, ln, t) (adX ext l (m + 1 + blk (l.drop (m + 1)))) else some ((k, ln, t), (0, 0, none), m)
/-- An address's node: that of a tree, or as it was. -/
def NodeIs (S : Nat → Prop) (W : World) (t : Option PN) (y0 y : NV) : Prop := match t with
  | none => y = y0
  | some t => IsP S W t y
theorem NodeIs.turned {S : Nat → Prop} {W W' : World} {t : Option PN} {y0 y : NV} (h : NodeIs S W t y0 y) (ht : Turned S W W') : NodeIs S W' t y0 y := by
  cases t with
  | none => exact h
  | some t => exact IsP.turned ht h
theorem NodeIs.weaken {S T : Nat → Prop} {W : World} {t : Option PN} {y0 y : NV} (h : NodeIs S W t y0 y) (hT : ∀ k, T k → S k) : NodeIs T W t y0 y := by
  cases t with
  | none => exact h
  | some t => exact IsP.weaken hT h
def AdsA (s : ByteArray) (ext : Bool) (r b : Nat) (c : CX) (x : Option ((Int × Int × Option PN) × (Int × Int × Option PN) × Nat)) (W W' : World) : Prop := ∃ (m : Nat) (c' : CX), RC s ext r b (m : Int) c' W W' ∧ ∀ p, x = some p → m = p.2.2 ∧ ∃ fy ty, NodeIs (fun k => k = r ∨ k = b) W' p.1.2.2 c.fy fy ∧ NodeIs (fun k => k = r ∨ k = b) W' p.2.1.2.2 c.ty ty ∧ c' = { c with fk := p.1.1, fl := p.1.2.1, fy := fy, tk := p.2.1.1, tl := p.2.1.2.1, ty := ty }
/-- Where an address ends lies within the text. -/
theorem cut_le (d : UInt8) (ln : Bool) : ∀ (k : Nat) (l : List UInt8), l.length ≤ k → ∀ p, cutF d ln l = some p → p.2 ≤ l.length
  | _, [], _, p, h => by simp [cutF] at h
  | _, [c], _, p, h => by
    unfold cutF at h
    split at h
    · cases h
    · split at h
      · injection h with h; subst h; simp
      · cases h
  | 0, _ :: _ :: _, hk, _, _ => by simp at hk
  | k + 1, c :: x :: r, hk, p, h => by
    simp only [List.length_cons] at hk
    rw [cutF] at h
    split at h
    · cases h
    · split at h
      · injection h with h; subst h; simp
      · split at h
        · split at h
          · cases h
          · cases hq : cutF d ln r with
            | none => rw [hq] at h; cases h
            | some q =>
              have := cut_le d ln k r (by omega) q hq
              rw [hq] at h
              injection h with h
              subst h
              simp only [List.length_cons]
              omega
        · cases hq : cutF d ln (x :: r) with
          | none => rw [hq] at h; cases h
          | some q =>
            have := cut_le d ln k (x :: r) (by simp only [List.length_cons]; omega) q hq
            rw [hq] at h
            injection h with h
            subst h
            simp only [List.length_cons] at this ⊢
            omega
theorem cutG_le {d : UInt8} {ln : Bool} {l : List UInt8} {n : Nat} {p : List UInt8 × Nat} (h : cutG d ln l (n : Int) = some p) : p.2 ≤ l.length := by
  unfold cutG at h
  split at h
  · rename_i hc
    unfold cutAt at h
    rw [Int.toNat_natCast] at h
    cases hq : cutF d ln (l.drop n) with
    | none => rw [hq] at h; cases h
    | some q =>
      have := cut_le d ln _ (l.drop n) (Nat.le_refl _) q hq
      rw [hq] at h
      injection h with h
      subst h
      rw [List.length_drop] at this
      simp only
      omega
  · cases h
theorem patX_le {ext : Bool} {l : List UInt8} {n : Nat} {d : UInt8} {p : Bool × Option PN × Nat} (h : patX ext l n d = some p) : p.2.2 ≤ l.length := by
  unfold patX at h
  cases hc : cutG d false l (n : Int) with
  | none => rw [hc] at h; cases h
  | some q =>
    rw [hc] at h
    have := cutG_le hc
    obtain ⟨q1, q2⟩ := q
    simp only at h
    split at h
    · injection h with h; subst h; exact this
    · split at h
      · cases h
      · injection h with h; subst h; exact this
theorem adX_le {ext : Bool} {l : List UInt8} {n : Nat} (hn : n ≤ l.length) {p : Int × Int × Option PN × Nat} (h : adX ext l n = some p) : p.2.2.2 ≤ l.length := by
  unfold adX at h
  split at h
  · rename_i hc
    obtain ⟨q, hq, hql⟩ := num_nat (nv := (numF l (n : Int)).1) (na := (numF l (n : Int)).2.1) (by rw [← hc.1]) hn
    injection h with h
    subst h
    simp only
    rw [hq, Int.toNat_natCast]
    exact blk_in l q hql
  · split at h
    · rename_i h2
      obtain ⟨_, _, _, hnl⟩ := oneF_nat h2
      injection h with h
      subst h
      exact blk_in l _ hnl
    · split at h
      · cases hq : patX ext l (n + 1) 47 with
        | none => rw [hq] at h; cases h
        | some q =>
          rw [hq] at h
          injection h with h
          subst h
          exact blk_in l _ (patX_le hq)
      · split at h
        · cases hq : patX ext l (if n + 1 < l.length then n + 1 + 1 else n + 1) (anyB l (n + 1)) with
          | none => rw [hq] at h; cases h
          | some q =>
            rw [hq] at h
            injection h with h
            subst h
            exact blk_in l _ (patX_le hq)
        · injection h with h
          subst h
          exact blk_in l n hn
set_option maxRecDepth 100000 in
set_option maxHeartbeats 16000000 in
theorem addresses_m {s : ByteArray} {ext : Bool} {r b n : Nat} {c : CX} {w : World} (hz : s.size ≤ 2000) (hn : n ≤ s.size) (hM : MaxAt w) (hrb : r ≠ b) (h : Rd s ext r (n : Int) w) (hc : Cm c b w) (h0 : c.fk = 0 ∧ c.fl = 0) (h1 : c.tk = 0 ∧ c.tl = 0) {x : Option ((Int × Int × Option PN) × (Int × Int × Option PN) × Nat)} (hx : x = adsX ext s.data.toList n) : Calls Try.prog 16 #[.pointer (some ⟨r, 0, none⟩), .pointer (some ⟨b, 0, none⟩)] w fun e w' => e = .returned (.bool x.isSome) ∧ AdsA s ext r b c x w w' := by
  obtain ⟨y, hy⟩ : ∃ y, y = adX ext s.data.toList n := ⟨_, rfl⟩
  have HA := Lib.hid (address_from hz hn hM hrb h hc h0 hy)
  obtain ⟨l, hl⟩ : ∃ l, l = s.data.toList := ⟨_, rfl⟩
  have HL := Lib.hid hl
  have HSZ := Lib.hid (show l.length = s.size by rw [hl]; simp)
  have HYL := Lib.hid (show ∀ p, y = some p → p.2.2.2 ≤ l.length from fun p hp => adX_le (ext := ext) (n := n) (by have := HSZ.out; omega) (by rw [hl, ← hy, hp]))
  unfold adsX at hx
  rw [← hl] at hx hy
  rw [← hy] at hx
  have HX := Lib.hid hx
  have HRB := Lib.hid hrb
  have HRL := Lib.hid h.lt
  have HBL := Lib.hid hc.lt
  have HMX := Lib.hid hM
  have HGR := Lib.hid (max_ne_rd hM h)
  have HGB := Lib.hid (max_ne_cm hM hc)
  have HZ := Lib.hid hz
  have HC1 := Lib.hid h1
  have HC0 := Lib.hid h0
  clear hl hx hy hrb h hc hM hz hn h0 h1
  go_enter Try.func16, Try.ntmps16
  go_wp2_with fail
  go_at_call 25
  with_reducible refine HA.out.mono ?_
  rintro e w1 ⟨rfl, m, c1, hrc, hp⟩
  have H1 := Lib.hid hrc
  have HP := Lib.hid hp
  clear hrc hp HA
  cases y with
  | none =>
    have HX2 := Lib.hid (show x = none from HX.out)
    go_wp2_with fail
    go_ret
    exact ⟨by rw [HX2.out]; rfl, m, c1, H1.out, fun p hp => by rw [HX2.out] at hp; cases hp⟩
  | some y =>
    obtain ⟨k, ln, t, m'⟩ := y
    obtain ⟨hm, hcc⟩ := HP.out _ rfl
    simp only at hm hcc
    subst hm
    have HML := Lib.hid (HYL.out _ rfl)
    simp only at HX HML
    obtain ⟨fy, HFY⟩ : ∃ fy, Hid (NodeIs (fun k => k = r ∨ k = b) w1 t c.fy fy ∧ c1 = { c with fk := k, fl := ln, fy := fy }) := by
      cases t with
      | none =>
        simp only at hcc
        exact ⟨c.fy, Lib.hid ⟨rfl, by rw [hcc]⟩⟩
      | some t =>
        simp only at hcc
        obtain ⟨y, hy, hcc⟩ := hcc
        exact ⟨y, Lib.hid ⟨hy.weaken fun k hk => by rcases hk with rfl | rfl; exact HRL.out; exact HBL.out, hcc⟩⟩
    have hfk : c1.fk = k := by rw [HFY.out.2]
    have kc := H1.out.cm.cell 2 _ rfl
    rw [hfk] at kc
    clear hcc HP hfk
    cases hk : (k == 0) with
    | true =>
      have HK := Lib.hid (beq_iff_eq.1 hk)
      have HX2 := Lib.hid (show x = some ((k, ln, t), (0, 0, none), m) by rw [HX.out, if_pos HK.out])
      go_wp2_with fail
      go_ret
      refine ⟨by rw [HX2.out]; rfl, m, c1, H1.out, fun p hp => ?_⟩
      rw [HX2.out] at hp
      injection hp with hp
      subst hp
      refine ⟨rfl, fy, c.ty, HFY.out.1, rfl, ?_⟩
      rw [HFY.out.2]
      have h1 := HC1.out
      cases c
      obtain ⟨rfl, rfl⟩ := h1
      rfl
    | false =>
      have HK := Lib.hid (beq_eq_false_iff_ne.1 hk)
      have HT := Lib.hid fun (f : Bool) hf => take_m HZ.out H1.out.rd ⟨#[44]⟩ (f := f) hf
      cases h44 : oneF [44] l (m : Int) with
      | false =>
        have HX2 := Lib.hid (show x = some ((k, ln, t), (0, 0, none), m) by rw [HX.out, if_neg HK.out, h44, if_neg (by decide)])
        have HT1 := Lib.hid (HT.out false (by rw [← h44, HL.out]))
        clear h44 HT
        go_wp2_with fail
        go_at_call 12
        with_reducible refine HT1.out.mono ?_
        rintro e w2 ⟨rfl, hv2⟩
        have H2 := Lib.hid (show RC s ext r b (m : Int) c1 w w2 from H1.out.move HRB.out hv2)
        have HN2 := Lib.hid (HFY.out.1.turned (hv2.tu.wider fun k _ hk => .inl hk))
        clear hv2
        go_wp2_with fail
        go_ret
        refine ⟨by rw [HX2.out]; rfl, m, c1, H2.out, fun p hp => ?_⟩
        rw [HX2.out] at hp
        injection hp with hp
        subst hp
        refine ⟨rfl, fy, c.ty, HN2.out, rfl, ?_⟩
        rw [HFY.out.2]
        have h1 := HC1.out
        cases c
        obtain ⟨rfl, rfl⟩ := h1
        rfl
      | true =>
        obtain ⟨z, hz⟩ : ∃ z, z = adX ext l (m + 1 + blk (l.drop (m + 1))) := ⟨_, rfl⟩
        have HX2 := Lib.hid (show x = secX (k, ln, t) z by rw [HX.out, if_neg HK.out, h44, if_pos rfl, hz])
        obtain ⟨_, _, _, hml⟩ := oneF_nat h44
        have HML2 := Lib.hid (blk_in l (m + 1) hml)
        have HT1 := Lib.hid (HT.out true (by rw [← h44, HL.out]))
        have HZZ := Lib.hid hz
        obtain ⟨q, hq⟩ : ∃ q, q = m + 1 + blk (l.drop (m + 1)) := ⟨_, rfl⟩
        rw [← hq] at HML2 HZZ
        have HQ := Lib.hid hq
        clear h44 HT hz hml hq
        go_wp2_with fail
        go_at_call 12
        with_reducible refine HT1.out.mono ?_
        rintro e w2 ⟨rfl, hv2⟩
        have H2 := Lib.hid (show RC s ext r b ((m + 1 : Nat) : Int) c1 w w2 from H1.out.move HRB.out hv2)
        have HN2 := Lib.hid (HFY.out.1.turned (hv2.tu.wider fun k _ hk => .inl hk))
        clear hv2
        have HB := Lib.hid (by
          have := blanks_m (n := ((m + 1 : Nat) : Int)) HZ.out H2.out.rd
          rw [← HL.out, blanks_nat, ← HQ.out] at this
          exact this : Calls Try.prog 11 #[.pointer (some ⟨r, 0, none⟩)] w2 (fun e w' => e = .returned (.tuple #[]) ∧ Mv s ext r (q : Int) w2 w'))
        go_wp2_with fail
        go_at_call 11
        with_reducible refine HB.out.mono ?_
        rintro e w3 ⟨rfl, hv3⟩
        have H3 := Lib.hid (H2.out.move HRB.out hv3)
        have HN3 := Lib.hid (HN2.out.turned (hv3.tu.wider fun k _ hk => .inl hk))
        clear hv3 HB HN2
        have HMX3 := Lib.hid (HMX.out.keep H3.out.tu (by have := HGR.out; have := HGB.out; omega))
        have HA2 := Lib.hid (address_to HZ.out (by have := HML2.out; have := HSZ.out; omega) HMX3.out HRB.out H3.out.rd H3.out.cm (by rw [HFY.out.2]; exact HC1.out) (show z = adX ext s.data.toList q by rw [← HL.out]; exact HZZ.out))
        go_wp2_with fail
        go_at_call 25
        with_reducible refine HA2.out.mono ?_
        rintro e w4 ⟨rfl, m4, c4, hrc, hp⟩
        have H4 := Lib.hid (H3.out.trans hrc)
        have HN4 := Lib.hid (HN3.out.turned hrc.tu)
        have HP := Lib.hid hp
        have HS3 := Lib.hid (show w.heap.size ≤ w3.heap.size from H3.out.tu.size)
        clear hrc hp HA2
        cases z with
        | none =>
          have HX3 := Lib.hid (show x = none from HX2.out)
          go_wp2_with fail
          go_ret
          exact ⟨by rw [HX3.out]; rfl, m4, c4, H4.out, fun p hp => by rw [HX3.out] at hp; cases hp⟩
        | some z =>
          obtain ⟨k2, ln2, t2, m2⟩ := z
          obtain ⟨hm, hcc⟩ := HP.out _ rfl
          simp only [secX] at hm hcc HX2
          subst hm
          obtain ⟨ty, HTY⟩ : ∃ ty, Hid (NodeIs (fun k => k = r ∨ k = b) w4 t2 c.ty ty ∧ c4 = { c1 with tk := k2, tl := ln2, ty := ty }) := by
            cases t2 with
            | none =>
              simp only at hcc
              exact ⟨c.ty, Lib.hid ⟨rfl, by rw [hcc, HFY.out.2]⟩⟩
            | some t =>
              simp only at hcc
              obtain ⟨y, hy, hcc⟩ := hcc
              exact ⟨y, Lib.hid ⟨hy.weaken fun k hk => by have := HS3.out; rcases hk with rfl | rfl; exact Nat.lt_of_lt_of_le HRL.out this; exact Nat.lt_of_lt_of_le HBL.out this, hcc⟩⟩
          have htk : c4.tk = k2 := by rw [HTY.out.2]
          have kc := H4.out.cm.cell 13 _ rfl
          rw [htk] at kc
          clear hcc HP htk
          cases hk2 : (k2 != 0) with
          | true =>
            have hk2n : (k2 == 0) = false := by simpa [bne] using hk2
            have HX3 := Lib.hid (show x = some ((k, ln, t), (k2, ln2, t2), m4) by rw [HX2.out, if_neg (bne_iff_ne.1 hk2)])
            go_wp2_with fail
            go_ret
            refine ⟨by rw [HX3.out]; rfl, m4, c4, H4.out, fun p hp => ?_⟩
            rw [HX3.out] at hp
            injection hp with hp
            subst hp
            exact ⟨rfl, fy, ty, HN4.out, HTY.out.1, by rw [HTY.out.2, HFY.out.2]⟩
          | false =>
            have hk2n : (k2 == 0) = true := by simpa [bne] using hk2
            have HX3 := Lib.hid (show x = none by rw [HX2.out, if_pos (by simpa [bne] using hk2)])
            go_wp2_with fail
            go_ret
            exact ⟨by rw [HX3.out]; rfl, m4, c4, H4.out, fun p hp => by rw [HX3.out] at hp; cases hp⟩
end Go.Proofs.Ytncbmdbfdjhkeaa
