/-
  Package script: the arguments of s, where they are right. Condition: texts of at most 2000 bytes.
-/
import Derived.Test.YtncbmdbfdjhkeaaSm
import Derived.Test.YtncbmdbfdjhkeaaSn
namespace Go.Proofs.Ytncbmdbfdjhkeaa
open Go.RowKit Go.Deep Go.Sort

/-- What the arguments of s leave. -/
def SubA (s : ByteArray) (ext : Bool) (r b m : Nat) (c : CX) (G : Fl) (X : ByteArray) (W W' : World) : Prop := ∃ (py : NV) (ag : Bool) (tv : Value), tv.oneCell' = true ∧ RC s ext r b (m : Int) { fx { c with py := py, ag := ag, tv := tv } G with file := X } W W'
set_option maxRecDepth 100000 in
set_option maxHeartbeats 8000000 in
theorem subst_m {s : ByteArray} {ext : Bool} {r b n n1 n2 m3 m : Nat} {c : CX} {w : World} (hz : s.size ≤ 2000) (hn : n ≤ s.size) (hM : MaxAt w) (hrb : r ≠ b) (h : Rd s ext r (n : Int) w) (hc : Cm c b w) (hag : c.ag = false) (hfl : c.file = ⟨#[]⟩) {d : UInt8} (hd : d = anyB s.data.toList n) (hn1 : n1 = if n < s.size then n + 1 else n) {a0 : Bool} {tr : Option PN} (hp : patX ext s.data.toList n1 d = some (a0, tr, n2)) (htr : ∀ t, tr = some t → t.kids = [] ∧ t.kind ≠ 5)
    {tp : List UInt8} (hcut : cutG d true s.data.toList (n2 : Int) = some (tp, m3)) {ps : List Pc} (hps : tplF tp.length [] [] tp = some ps) (hpl : ps.length ≤ 1048576) (hmx : mxG ps ≤ 0) {G : Fl} (hG : G = flF (s.size + 1) s.data.toList ⟨c.gl, c.pr, false, 1, m3⟩) {X : ByteArray} {ok : Bool} (hF : fileF s.data.toList G.n X m ok) : Calls Try.prog 35 #[.pointer (some ⟨r, 0, none⟩), .pointer (some ⟨b, 0, none⟩)] w fun e w' => e = .returned (.bool ok) ∧ SubA s ext r b m c G X w w' := by
  have hsz : s.data.toList.length = s.size := by simp
  have HN3 := Lib.hid (show m3 ≤ s.size by have := cutG_le hcut; simp only at this; omega)
  have HAN := Lib.hid (any_m hz hn h)
  rw [← hd, ← hn1] at HAN
  have HRB := Lib.hid hrb
  have HR := Lib.hid (RC.start h hc)
  have HZ := Lib.hid hz
  have HAG := Lib.hid hag
  have HFL := Lib.hid hfl
  have HTR := Lib.hid htr
  have HPX := Lib.hid hp
  have HCT := Lib.hid hcut
  have HPS := Lib.hid hps
  have HPL := Lib.hid hpl
  have HMX := Lib.hid hmx
  have HG := Lib.hid hG
  have HF := Lib.hid hF
  have HM := Lib.hid hM
  have HGR := Lib.hid (max_ne_rd hM h)
  have HGB := Lib.hid (max_ne_cm hM hc)
  clear hz hn hrb h hc hag hfl hd hn1 hp htr hcut hps hpl hmx hG hF hsz hM
  go_enter Try.func35, Try.ntmps35
  go_wp2_with fail
  go_at_call 18
  with_reducible refine HAN.out.mono ?_
  rintro e w1 ⟨rfl, hv⟩
  have H1 := Lib.hid (HR.out.move HRB.out hv)
  clear hv HAN
  have HM1 := Lib.hid ((HM.out.keep H1.out.tu (by have := HGR.out; have := HGB.out; omega)).below (bD w1 1))
  have HPT := Lib.hid (pattern_s (w := w1.drewN 1) HZ.out HM1.out HRB.out (H1.out.rd.stays (bD w1 1)) (H1.out.cm.stays (bD w1 1)) HAG.out d (x := some (a0, tr, n2)) HPX.out.symm)
  unfold PtS at HPT
  go_upto_region 2 with fail
  refine wp_region_plan (fun wx => True) [.p 0, .p 1, .p 2, .p 3, .p 4, .p 5, .p 6, .p 7, .o 8, .p 9, .p 10, .p 11, .p 12, .o 13, .p 14, .p 15, .p 16, .p 17, .o 18, .p 19, .p 20] [] (by kernel_rfl) (by kernel_rfl) (by kernel_rfl) (by repeat (first | exact pq_body | refine pq_then ?_ | refine pq_jump ?_ | refine pq_block ?_)) (by kernel_rfl) ?_
  iterate 8
    refine plan_p (v := ?_) rfl (by rfl) (fun wx => ?_) ?_
    rotate_left
    · go_simp
      try with_reducible rfl
    simp only [Act.put, List.setIfInBounds_toArray, List.set_cons_zero, List.set_cons_succ, List.getElem_toArray, List.getElem_cons_succ, List.getElem_cons_zero]
  refine plan_o rfl (fun K hK => ?_)
  go_simp
  refine HPT.out.mono ?_
  rintro e w2 ⟨rfl, m2, c2, hrc, hp⟩
  refine hK _ _ ⟨fun _ _ => trivial, ?_⟩
  clear hK K
  try simp only [Act.put, List.setIfInBounds_toArray, List.set_cons_zero, List.set_cons_succ, List.getElem_toArray, List.getElem_cons_succ, List.getElem_cons_zero]
  obtain ⟨hm2, hc2⟩ := hp _ rfl
  simp only at hm2 hc2
  subst hm2
  have H2 := Lib.hid ((H1.out.below (bD w1 1)).trans hrc)
  obtain ⟨py, ag, HC2⟩ : ∃ py ag, Hid (c2 = { c with py := py, ag := ag } ∧ (ag = true ∨ (ag = false ∧ py.n = 0 ∧ py.kind ≠ 5))) := by
    cases tr with
    | none =>
      simp only at hc2
      exact ⟨c.py, true, Lib.hid ⟨hc2, .inl rfl⟩⟩
    | some t =>
      simp only at hc2
      obtain ⟨y, hy, hc2⟩ := hc2
      refine ⟨y, false, Lib.hid ⟨by rw [hc2, ← HAG.out], .inr ⟨rfl, ?_⟩⟩⟩
      have h2 := HTR.out t rfl
      cases hy with
      | mk xs hl hcc hr hk =>
        exact ⟨by have := h2.1; simp only [PN.kids] at this; simp only; rw [this]; rfl, h2.2⟩
  clear hrc hp hc2 HPT
  have HTM := Lib.hid (template_m HZ.out HRB.out H2.out.rd H2.out.cm d (tp := tp) (m := m3) (by rw [← HCT.out]) (ps := ps) HPS.out HPL.out (by
    rw [HC2.out.1]
    rcases HC2.out.2 with h | ⟨h1, h2, h3⟩
    · exact .inl h
    · exact .inr ⟨h1, h2, h3, HMX.out⟩))
  iterate 4
    refine plan_p (v := ?_) rfl (by rfl) (fun wx => ?_) ?_
    rotate_left
    · go_simp
      try with_reducible rfl
    simp only [Act.put, List.setIfInBounds_toArray, List.set_cons_zero, List.set_cons_succ, List.getElem_toArray, List.getElem_cons_succ, List.getElem_cons_zero]
  refine plan_o rfl (fun K hK => ?_)
  go_simp
  refine HTM.out.mono ?_
  rintro e w3 ⟨rfl, tv, htv, hrc⟩
  refine hK _ _ ⟨fun _ _ => trivial, ?_⟩
  clear hK K
  try simp only [Act.put, List.setIfInBounds_toArray, List.set_cons_zero, List.set_cons_succ, List.getElem_toArray, List.getElem_cons_succ, List.getElem_cons_zero]
  have HTV := Lib.hid htv
  clear htv
  have H3 := Lib.hid (H2.out.trans hrc)
  clear hrc HTM
  have HFG := Lib.hid (flags_m HZ.out HN3.out HRB.out H3.out.rd H3.out.cm (by rw [HC2.out.1]; exact HFL.out) (G := G) (by rw [HC2.out.1]; exact HG.out) HF.out)
  iterate 4
    refine plan_p (v := ?_) rfl (by rfl) (fun wx => ?_) ?_
    rotate_left
    · go_simp
      try with_reducible rfl
    simp only [Act.put, List.setIfInBounds_toArray, List.set_cons_zero, List.set_cons_succ, List.getElem_toArray, List.getElem_cons_succ, List.getElem_cons_zero]
  refine plan_o rfl (fun K hK => ?_)
  go_simp
  refine HFG.out.mono ?_
  rintro e w4 ⟨rfl, hrc⟩
  refine hK _ _ ⟨fun _ _ => trivial, ?_⟩
  clear hK K
  try simp only [Act.put, List.setIfInBounds_toArray, List.set_cons_zero, List.set_cons_succ, List.getElem_toArray, List.getElem_cons_succ, List.getElem_cons_zero]
  have H4 := Lib.hid (H3.out.trans hrc)
  clear hrc HFG
  iterate 2
    refine plan_p (v := ?_) rfl (by rfl) (fun wx => ?_) ?_
    rotate_left
    · go_simp
      try with_reducible rfl
    simp only [Act.put, List.setIfInBounds_toArray, List.set_cons_zero, List.set_cons_succ, List.getElem_toArray, List.getElem_cons_succ, List.getElem_cons_zero]
  refine plan_end ?_
  go_wp2_with fail
  go_ret
  refine ⟨rfl, py, ag, tv, HTV.out, ?_⟩
  have h4 := H4.out
  rw [HC2.out.1] at h4
  exact h4
end Go.Proofs.Ytncbmdbfdjhkeaa
