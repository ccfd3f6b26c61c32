/-
  Package script: a command that is right, of the letters that take nothing, and s. Condition: texts of at most 2000 bytes.
-/
import Derived.Test.YtncbmdbfdjhkeaaSp
namespace Go.Proofs.Ytncbmdbfdjhkeaa
open Go.RowKit Go.Deep Go.Sort

theorem adsX_le {ext : Bool} {l : List UInt8} {n : Nat} (hn : n ≤ l.length) {p : (Int × Int × Option PN) × (Int × Int × Option PN) × Nat} (h : adsX ext l n = some p) : p.2.2 ≤ l.length := by
  unfold adsX at h
  cases hq : adX ext l n with
  | none => rw [hq] at h; cases h
  | some q =>
    rw [hq] at h
    have h1 := adX_le hn hq
    obtain ⟨k, ln, t, m⟩ := q
    simp only at h h1
    split at h
    · injection h with h; subst h; exact h1
    · split at h
      · rename_i h44
        obtain ⟨_, _, _, hml⟩ := oneF_nat h44
        unfold secX at h
        cases hz : adX ext l (m + 1 + blk (l.drop (m + 1))) with
        | none => rw [hz] at h; cases h
        | some z =>
          rw [hz] at h
          have h2 := adX_le (blk_in l (m + 1) hml) hz
          obtain ⟨k2, ln2, t2, m2⟩ := z
          simp only at h h2
          split at h
          · cases h
          · injection h with h; subst h; exact h2
      · injection h with h; subst h; exact h1
theorem nil_test (f : Fn) (a b : Array Value) (W : World) : (binOp .eql 22 (.func f a b) .nilFunc).run Try.prog W = .ok (.bool false) W := by kernel_rfl
theorem cntA_two (fk tk : Int) : decide ((2 : Int) < cntA fk tk) = false ∧ ¬ (2 : Int) < cntA fk tk := by
  unfold cntA
  cases (tk != 0) <;> cases (fk != 0) <;> exact ⟨rfl, by decide⟩
set_option maxRecDepth 100000 in
theorem letter1_m (w : World) : Calls Try.prog 26 #[] w fun e w' => e = .returned (.bool true) ∧ Below w.heap.size w w' := by
  go_enter Try.func26, Try.ntmps26
  go_wp2_with fail
  go_ret
  exact ⟨rfl, Below.refl _ _⟩
/-- What a command leaves, in short. -/
def CmA (s : ByteArray) (ext : Bool) (r b m : Nat) (c : CX) (A1 A2 : Int × Int × Option PN) (nt : Bool) (v : Nat) (W W' : World) : Prop := ∃ (fy ty : NV), RC s ext r b (m : Int) { c with fk := A1.1, fl := A1.2.1, fy := fy, tk := A2.1, tl := A2.2.1, ty := ty, nt := nt, name := (v : Int) } W W'
set_option maxRecDepth 100000 in
set_option maxHeartbeats 16000000 in
theorem command_n {s : ByteArray} {ext : Bool} {r b n m1 m2 : Nat} {c : CX} {w : World} (hz : s.size ≤ 2000) (hn : n ≤ s.size) (hM : MaxAt w) (hrb : r ≠ b) (h : Rd s ext r (n : Int) w) (hc : Cm c b w) (h0 : c.fk = 0 ∧ c.fl = 0) (h1 : c.tk = 0 ∧ c.tl = 0) (hnt : c.nt = false) {A1 A2 : Int × Int × Option PN} (hA : adsX ext s.data.toList n = some (A1, A2, m1)) {nt : Bool} (hN : ngF (s.size + 1) s.data.toList m1 false = (nt, m2)) {v : Nat} {ch : UInt8} (hch : s.data.toList[m2]? = some ch) (hv : ch.toNat = v) (HLET : ∀ (W : World) (n' : Nat) (c' : CX), Rd s ext r (n' : Int) W → Cm c' b W → c'.name = (v : Int) → Calls Try.prog 19 #[.pointer (some ⟨r, 0, none⟩), .pointer (some ⟨b, 0, none⟩)] W fun e w' => e = .returned (.tuple #[.int .i64 2, .func (.func 26) #[] #[]]) ∧ Below W.heap.size W w') {m : Nat} (hm : (v = 123 ∧ m = m2 + 1) ∨ (v ≠ 123 ∧ m = m2 + 1 + blk (s.data.toList.drop (m2 + 1)) ∧ endF s.data.toList m = true)) : Calls Try.prog 10 #[.pointer (some ⟨r, 0, none⟩), .pointer (some ⟨b, 0, none⟩)] w fun e w' => e = .returned (.bool true) ∧ CmA s ext r b m c A1 A2 nt v w w' := by
  have hsz : s.data.toList.length = s.size := by simp
  have HA1 := Lib.hid (show m1 ≤ s.size by have := adsX_le (by omega) hA; simp only at this; omega)
  have HM2 := Lib.hid (show m2 < s.size by have := (List.getElem?_eq_some_iff.1 hch).1; omega)
  have HAD := Lib.hid (addresses_m hz hn hM hrb h hc h0 h1 (x := some (A1, A2, m1)) hA.symm)
  have HAB := Lib.hid (show anyB s.data.toList m2 = ch by unfold anyB; rw [hch]; rfl)
  have HV := Lib.hid hv
  have HNG := Lib.hid hN
  have HNT := Lib.hid hnt
  have HRB := Lib.hid hrb
  have HZ := Lib.hid hz
  have HR := Lib.hid (RC.start h hc)
  have HM := Lib.hid hM
  have HGR := Lib.hid (max_ne_rd hM h)
  have HGB := Lib.hid (max_ne_cm hM hc)
  unfold AdsA at HAD
  have HMM := Lib.hid hm
  have HLETh := Lib.hid HLET
  clear hz hn hM hrb h hc h0 h1 hnt hA hN hch hv hsz HLET hm
  go_enter Try.func10, Try.ntmps10
  go_wp2_with fail
  go_at_call 16
  with_reducible refine HAD.out.mono ?_
  rintro e w1 ⟨rfl, m1', c1, hrc, hp⟩
  obtain ⟨hm1, fy, ty, _, _, hc1⟩ := hp _ rfl
  simp only at hm1 hc1
  subst hm1
  have H1 := Lib.hid hrc
  have HC1 := Lib.hid hc1
  clear hrc hp hc1 HAD
  have HNE := Lib.hid (negation_m HZ.out HA1.out HRB.out H1.out.rd H1.out.cm)
  rw [show c1.nt = false by rw [HC1.out]; exact HNT.out, HNG.out] at HNE
  go_wp2_with fail
  go_at_call 17
  with_reducible refine HNE.out.mono ?_
  rintro e w2 ⟨rfl, hrc⟩
  have H2 := Lib.hid (show RC s ext r b (m2 : Int) { c1 with nt := nt } w w2 from H1.out.trans hrc)
  clear hrc HNE
  have HAN := Lib.hid (any_m HZ.out (by have := HM2.out; omega) H2.out.rd)
  rw [HAB.out, HV.out, if_pos HM2.out] at HAN
  go_wp2_with fail
  go_at_call 18
  with_reducible refine HAN.out.mono ?_
  rintro e w3 ⟨rfl, hv3⟩
  have H3 := Lib.hid (H2.out.move HRB.out hv3)
  clear hv3 HAN
  have kc := H3.out.cm.cell 1 _ rfl
  have kf := H3.out.cm.free 1
  go_upto_region 5 with fail
  have H4 := Lib.hid (show RC s ext r b ((m2 + 1 : Nat) : Int) { c1 with nt := nt, name := (v : Int) } w (w3.setCell ⟨b, 1, none⟩ (.int .u8 (v : Int))) from H3.out.set HRB.out 1 _ _ (by kernel_rfl))
  obtain ⟨w4, hw4⟩ : ∃ w4, w4 = w3.setCell ⟨b, 1, none⟩ (.int .u8 (v : Int)) := ⟨_, rfl⟩
  rw [← hw4] at H4 ⊢
  clear hw4 kc kf
  have HLL := Lib.hid (HLETh.out w4 (m2 + 1) _ H4.out.rd H4.out.cm rfl)
  go_wp2_with fail
  go_at_call 19
  with_reducible refine HLL.out.mono ?_
  rintro e w5 ⟨rfl, hb5⟩
  have H5 := Lib.hid (H4.out.below hb5)
  clear hb5 HLL
  have HCN := Lib.hid (count_m H5.out.cm)
  obtain ⟨CT, hCT⟩ : ∃ CT, CT = cntA c1.fk c1.tk := ⟨_, rfl⟩
  have hct := cntA_two c1.fk c1.tk
  have HCN2 := Lib.hid (show Calls Try.prog 20 #[.pointer (some ⟨b, 0, none⟩)] w5 (fun e w' => e = .returned (.int .i64 CT) ∧ Below w5.heap.size w5 w') by rw [hCT]; exact HCN.out)
  rw [← hCT] at hct
  obtain ⟨g1, g2⟩ := hct
  clear hCT HCN
  have hnil := nil_test (.func 26) #[] #[] w5
  go_wp2_with fail
  go_at_call 20
  with_reducible refine HCN2.out.mono ?_
  rintro e w6 ⟨rfl, hb6⟩
  have H6 := Lib.hid (H5.out.below hb6)
  clear hb6 HCN2
  go_wp2_with fail
  go_at_call 26
  with_reducible refine (letter1_m _).mono ?_
  rintro e w7 ⟨rfl, hb7⟩
  have H7 := Lib.hid (H6.out.below hb7)
  clear hb7
  have kc := H7.out.cm.cell 1 _ rfl
  rcases HMM.out with ⟨rfl, hm⟩ | ⟨hne, hm, he⟩
  · have HE := Lib.hid hm
    clear hm
    go_wp2_with fail
    go_ret
    refine ⟨rfl, fy, ty, ?_⟩
    have h7 := H7.out
    rw [HC1.out] at h7
    rw [HE.out]
    exact h7
  · have gv : ((v : Int) == 123) = false := by rw [beq_eq_false_iff_ne]; omega
    have gvn : (v == 123) = false := by rw [beq_eq_false_iff_ne]; exact hne
    have HE := Lib.hid (ended_m HZ.out H7.out.rd hm)
    rw [he] at HE
    clear hm he hne
    go_wp2_with fail
    go_at_call 21
    with_reducible refine HE.out.mono ?_
    rintro e w8 ⟨rfl, hv8⟩
    have H8 := Lib.hid (H7.out.move HRB.out hv8)
    clear hv8 HE kc
    go_wp2_with fail
    go_ret
    refine ⟨rfl, fy, ty, ?_⟩
    have h8 := H8.out
    rw [HC1.out] at h8
    exact h8
end Go.Proofs.Ytncbmdbfdjhkeaa
