/-
  Package script: a command s that is right. Condition: texts of at most 2000 bytes.
-/
import Derived.Test.YtncbmdbfdjhkeaaSq
namespace Go.Proofs.Ytncbmdbfdjhkeaa
open Go.RowKit Go.Deep Go.Sort

/-- The arguments of s from n on are right: what they say, and where they end. -/
def SubOk (ext : Bool) (l : List UInt8) (n : Nat) (G : Fl) (X : ByteArray) (m : Nat) (ok : Bool) : Prop := ∃ (d : UInt8) (n1 : Nat) (a0 : Bool) (tr : Option PN) (n2 : Nat) (tp : List UInt8) (m3 : Nat) (ps : List Pc),
  d = anyB l n ∧ (n1 = if n < l.length then n + 1 else n) ∧ patX ext l n1 d = some (a0, tr, n2) ∧ (∀ t, tr = some t → t.kids = [] ∧ t.kind ≠ 5) ∧ cutG d true l (n2 : Int) = some (tp, m3) ∧ tplF tp.length [] [] tp = some ps ∧ ps.length ≤ 1048576 ∧ mxG ps ≤ 0 ∧ G = flF (l.length + 1) l ⟨false, false, false, 1, m3⟩ ∧ fileF l G.n X m ok
theorem subst_ok {s : ByteArray} {ext : Bool} {r b n m : Nat} {c : CX} {w : World} (hz : s.size ≤ 2000) (hn : n ≤ s.size) (hM : MaxAt w) (hrb : r ≠ b) (h : Rd s ext r (n : Int) w) (hc : Cm c b w) (hag : c.ag = false) (hfl : c.file = ⟨#[]⟩) (hgl : c.gl = false) (hpr : c.pr = false) {G : Fl} {X : ByteArray} {ok : Bool} (hs : SubOk ext s.data.toList n G X m ok) : Calls Try.prog 35 #[.pointer (some ⟨r, 0, none⟩), .pointer (some ⟨b, 0, none⟩)] w fun e w' => e = .returned (.bool ok) ∧ SubA s ext r b m c G X w w' := by
  obtain ⟨d, n1, a0, tr, n2, tp, m3, ps, e1, e2, e3, e4, e5, e6, e7, e8, e9, e10⟩ := hs
  have hsz : s.data.toList.length = s.size := by simp
  rw [hsz] at e2 e9
  exact subst_m hz hn hM hrb h hc hag hfl e1 e2 e3 e4 e5 e6 e7 e8 (by rw [hgl, hpr]; exact e9) e10
set_option maxRecDepth 100000 in
set_option maxHeartbeats 16000000 in
theorem letter6_m {s : ByteArray} {ext : Bool} {r b p q n m : Nat} {c : CX} {w : World} (hz : s.size ≤ 2000) (hn : n ≤ s.size) (hM : MaxAt w) (hrb : r ≠ b) (h : Rd s ext r (n : Int) w) (hc : Cm c b w) (hag : c.ag = false) (hfl : c.file = ⟨#[]⟩) (hgl : c.gl = false) (hpr : c.pr = false) {G : Fl} {X : ByteArray} {ok : Bool} (hs : SubOk ext s.data.toList n G X m ok) (cap : Cap r b p q w) : Calls Try.prog 34 #[.pointer (some ⟨p, 0, none⟩), .pointer (some ⟨q, 0, none⟩)] w fun e w' => e = .returned (.bool ok) ∧ SubA s ext r b m c G X w w' := by
  have HS := Lib.hid (subst_ok hz hn hM hrb h hc hag hfl hgl hpr hs)
  have k0 := cap.rp.cell
  have k1 := cap.cq.cell
  clear hz hn hM hrb h hc hag hfl hgl hpr hs cap
  go_enter Try.func34, Try.ntmps34
  go_wp2_with fail
  go_at_call 35
  with_reducible refine HS.out.mono ?_
  rintro e w1 ⟨rfl, hs⟩
  have HS1 := Lib.hid hs
  clear hs k0 k1 HS
  go_wp2_with fail
  go_ret
  exact ⟨rfl, HS1.out⟩
/-- What a command s leaves, in short. -/
def CmS (s : ByteArray) (ext : Bool) (r b m : Nat) (c : CX) (A1 A2 : Int × Int × Option PN) (nt : Bool) (G : Fl) (X : ByteArray) (W W' : World) : Prop := ∃ (fy ty py : NV) (ag : Bool) (tv : Value), tv.oneCell' = true ∧ RC s ext r b (m : Int) { fx { c with fk := A1.1, fl := A1.2.1, fy := fy, tk := A2.1, tl := A2.2.1, ty := ty, nt := nt, name := 115, py := py, ag := ag, tv := tv } G with file := X } W W'
set_option maxRecDepth 100000 in
set_option maxHeartbeats 16000000 in
theorem command_s {s : ByteArray} {ext : Bool} {r b n m1 m2 : Nat} {c : CX} {w : World} (hz : s.size ≤ 2000) (hn : n ≤ s.size) (hM : MaxAt w) (hrb : r ≠ b) (h : Rd s ext r (n : Int) w) (hc : Cm c b w) (h0 : c.fk = 0 ∧ c.fl = 0) (h1 : c.tk = 0 ∧ c.tl = 0) (hnt : c.nt = false) {A1 A2 : Int × Int × Option PN} (hA : adsX ext s.data.toList n = some (A1, A2, m1)) {nt : Bool} (hN : ngF (s.size + 1) s.data.toList m1 false = (nt, m2)) (hch : s.data.toList[m2]? = some 115) (hag : c.ag = false) (hfl : c.file = ⟨#[]⟩) (hgl : c.gl = false) (hpr : c.pr = false) {G : Fl} {X : ByteArray} {m3 m : Nat} (hs : SubOk ext s.data.toList (m2 + 1) G X m3 true) (hm : m = m3 + blk (s.data.toList.drop m3) ∧ endF s.data.toList m = true) : Calls Try.prog 10 #[.pointer (some ⟨r, 0, none⟩), .pointer (some ⟨b, 0, none⟩)] w fun e w' => e = .returned (.bool true) ∧ CmS s ext r b m c A1 A2 nt G X w w' := by
  have hsz : s.data.toList.length = s.size := by simp
  have HA1 := Lib.hid (show m1 ≤ s.size by have := adsX_le (by omega) hA; simp only at this; omega)
  have HM2 := Lib.hid (show m2 < s.size by have := (List.getElem?_eq_some_iff.1 hch).1; omega)
  have HAD := Lib.hid (addresses_m hz hn hM hrb h hc h0 h1 (x := some (A1, A2, m1)) hA.symm)
  have HAB := Lib.hid (show anyB s.data.toList m2 = 115 by unfold anyB; rw [hch]; rfl)
  have HNG := Lib.hid hN
  have HNT := Lib.hid hnt
  have HRB := Lib.hid hrb
  have HZ := Lib.hid hz
  have HR := Lib.hid (RC.start h hc)
  have HM := Lib.hid hM
  have HGR := Lib.hid (max_ne_rd hM h)
  have HGB := Lib.hid (max_ne_cm hM hc)
  unfold AdsA at HAD
  have HMM := Lib.hid hm
  have HSS := Lib.hid hs
  have HQ := Lib.hid (And.intro hag (And.intro hfl (And.intro hgl hpr)))
  clear hz hn hM hrb h hc h0 h1 hnt hA hN hch hsz hm hs hag hfl hgl hpr
  go_enter Try.func10, Try.ntmps10
  go_wp2_with fail
  go_at_call 16
  with_reducible refine HAD.out.mono ?_
  rintro e w1 ⟨rfl, m1', c1, hrc, hp⟩
  obtain ⟨hm1, fy, ty, _, _, hc1⟩ := hp _ rfl
  simp only at hm1 hc1
  subst hm1
  have H1 := Lib.hid hrc
  have HC1 := Lib.hid hc1
  clear hrc hp hc1 HAD
  have HNE := Lib.hid (negation_m HZ.out HA1.out HRB.out H1.out.rd H1.out.cm)
  rw [show c1.nt = false by rw [HC1.out]; exact HNT.out, HNG.out] at HNE
  go_wp2_with fail
  go_at_call 17
  with_reducible refine HNE.out.mono ?_
  rintro e w2 ⟨rfl, hrc⟩
  have H2 := Lib.hid (show RC s ext r b (m2 : Int) { c1 with nt := nt } w w2 from H1.out.trans hrc)
  clear hrc HNE
  have HAN := Lib.hid (any_m HZ.out (by have := HM2.out; omega) H2.out.rd)
  rw [HAB.out, if_pos HM2.out, show (((115 : UInt8).toNat : Nat) : Int) = 115 from rfl] at HAN
  go_wp2_with fail
  go_at_call 18
  with_reducible refine HAN.out.mono ?_
  rintro e w3 ⟨rfl, hv3⟩
  have H3 := Lib.hid (H2.out.move HRB.out hv3)
  clear hv3 HAN
  have kc := H3.out.cm.cell 1 _ rfl
  have kf := H3.out.cm.free 1
  go_upto_region 5 with fail
  have H4 := Lib.hid (show RC s ext r b ((m2 + 1 : Nat) : Int) { c1 with nt := nt, name := 115 } w (w3.setCell ⟨b, 1, none⟩ (.int .u8 115)) from H3.out.set HRB.out 1 _ _ (by kernel_rfl))
  obtain ⟨w4, hw4⟩ : ∃ w4, w4 = w3.setCell ⟨b, 1, none⟩ (.int .u8 115) := ⟨_, rfl⟩
  rw [← hw4] at H4 ⊢
  clear hw4 kc kf
  have HLL := Lib.hid (letter_s H4.out.rd H4.out.cm rfl)
  unfold LetS at HLL
  go_wp2_with fail
  go_at_call 19
  with_reducible refine HLL.out.mono ?_
  rintro e w5 ⟨p, q, rfl, hb5, hcap⟩
  have H5 := Lib.hid (H4.out.below hb5)
  have HCP := Lib.hid hcap
  clear hb5 HLL hcap
  have HCN := Lib.hid (count_m H5.out.cm)
  obtain ⟨CT, hCT⟩ : ∃ CT, CT = cntA c1.fk c1.tk := ⟨_, rfl⟩
  have hct := cntA_two c1.fk c1.tk
  have HCN2 := Lib.hid (show Calls Try.prog 20 #[.pointer (some ⟨b, 0, none⟩)] w5 (fun e w' => e = .returned (.int .i64 CT) ∧ Below w5.heap.size w5 w') by rw [hCT]; exact HCN.out)
  rw [← hCT] at hct
  obtain ⟨g1, g2⟩ := hct
  clear hCT HCN
  have hnil := nil_test (.func 34) #[] #[.pointer (some ⟨p, 0, none⟩), .pointer (some ⟨q, 0, none⟩)] w5
  go_wp2_with fail
  go_at_call 20
  with_reducible refine HCN2.out.mono ?_
  rintro e w6 ⟨rfl, hb6⟩
  have H6 := Lib.hid (H5.out.below hb6)
  have HCP6 := Lib.hid (HCP.out.stays hb6)
  clear hb6 HCN2 hnil
  have HM6 := Lib.hid (HM.out.keep H6.out.tu (by have := HGR.out; have := HGB.out; omega))
  have HL6 := Lib.hid (letter6_m HZ.out (by have := HM2.out; omega) HM6.out HRB.out H6.out.rd H6.out.cm (by rw [HC1.out]; exact HQ.out.1) (by rw [HC1.out]; exact HQ.out.2.1) (by rw [HC1.out]; exact HQ.out.2.2.1) (by rw [HC1.out]; exact HQ.out.2.2.2) HSS.out HCP6.out)
  unfold SubA at HL6
  go_wp2_with fail
  go_at_call 34
  with_reducible refine HL6.out.mono ?_
  rintro e w7 ⟨rfl, py, ag, tv, htv, hrc⟩
  have HTV := Lib.hid htv
  clear htv
  have H7 := Lib.hid (H6.out.trans hrc)
  clear hrc HL6
  have kc := H7.out.cm.cell 1 _ rfl
  have HE := Lib.hid (ended_m HZ.out H7.out.rd HMM.out.1)
  rw [HMM.out.2] at HE
  simp only [fx] at kc
  go_wp2_with fail
  go_at_call 21
  with_reducible refine HE.out.mono ?_
  rintro e w8 ⟨rfl, hv8⟩
  have H8 := Lib.hid (H7.out.move HRB.out hv8)
  clear hv8 HE kc
  go_wp2_with fail
  go_ret
  refine ⟨rfl, fy, ty, py, ag, tv, HTV.out, ?_⟩
  have h8 := H8.out
  rw [HC1.out] at h8
  exact h8
end Go.Proofs.Ytncbmdbfdjhkeaa
