/-
  Package replace's Parse: a template's pieces. Condition: a text of at most 100000 bytes.
-/
import Derived.Test.YtncbmdbfdjhkeaaRp3
namespace Go.Proofs.Ytncbmdbfdjhkeaa
open Go.RowKit Go.Deep

/-- The pieces of a text, others and bytes ahead of it. -/
def tplF : Nat → List Pc → List UInt8 → List UInt8 → Option (List Pc)
  | _, ps, bs, [] => some (withP ps bs)
  | 0, _, _, _ :: _ => none
  | f + 1, ps, bs, c :: r => if (fstT (c :: r)).2.2 = 0 then none else if (fstT (c :: r)).1 = -1 then tplF f ps (bs ++ [(fstT (c :: r)).2.1]) ((c :: r).drop (fstT (c :: r)).2.2) else tplF f (withP ps bs ++ [(⟨#[]⟩, (fstT (c :: r)).1)]) [] ((c :: r).drop (fstT (c :: r)).2.2)
/-- What Parse answers. -/
def TplA (o : Option (List Pc)) (w : World) (e : Ending) (w' : World) : Prop := Below w.heap.size w w' ∧ match o with
  | none => e = .returned (.tuple #[.slice none 0 0, .int .i64 111])
  | some ps => ∃ v, e = .returned (.tuple #[v, .int .i64 0]) ∧ PcOwn w' w.heap.size v ps
def strLen1 : Value → Nat
  | .string s => s.size
  | _ => 0
theorem own_cut {w : World} {base : Nat} {e : TypeId} {sz n c : Nat} {A : Option Addr} {xs : List Value} (h : w.ownsRow base e sz (.slice A n c) n xs) : w.ownsRow base e sz (.slice A 0 c) 0 [] := by
  rcases h.2 with ⟨e1, e2⟩ | ⟨k, cap, cur, e1, hk, hg, hnc, hcm, hcs, ht⟩
  · cases e1
    exact World.ownsRow_nil w base e sz
  · cases e1
    exact ⟨by simp, .inr ⟨k, _, cur, rfl, hk, hg, Nat.zero_le _, hcm, hcs, by simp⟩⟩
/-- What holds at the label. -/
structure TplI (w w' : World) (o : Option (List Pc)) (K k : Nat) (rest : ByteArray) (ps : List Pc) (bs : List UInt8) (v vb : Value) : Prop where
  o : o = tplF k ps bs rest.data.toList
  k : rest.size ≤ k ∧ ps.length + 2 * k ≤ 2 * K ∧ bs.length + k ≤ K
  p : PcOwn w' w.heap.size v ps
  b : w'.ownsRow w.heap.size 5 1 vb bs.length (u8V bs)
  w : Below w.heap.size w w'
  a : ∀ k, v.ownBlock = some k → vb.ownBlock ≠ some k
theorem TplI.next {w w1 w2 : World} {o : Option (List Pc)} {K k : Nat} {rest : ByteArray} {ps : List Pc} {bs : List UInt8} {v vb : Value} (h : TplI w w1 o K k rest ps bs v vb) (hb : Below w1.heap.size w1 w2) : TplI w w2 o K k rest ps bs v vb :=
  ⟨h.o, h.k, ownsRow_turned h.p (Turned.of_below (S := fun _ => False) hb) (fun _ _ h => h), ownsRow_turned h.b (Turned.of_below (S := fun _ => False) hb) (fun _ _ h => h), h.w.trans (hb.mono h.w.size), h.a⟩
/-- A byte more. -/
theorem TplI.byte {w W w4 : World} {o : Option (List Pc)} {K k' : Nat} {rest : ByteArray} {ps : List Pc} {bs : List UInt8} {v vb vb' : Value} {c : UInt8} {r : List UInt8} (h : TplI w W o K (k' + 1) rest ps bs v vb) (hl : rest.data.toList = c :: r) (h0 : (fstT (c :: r)).2.2 ≠ 0) (h1 : (fstT (c :: r)).1 = -1)
    (hown : w4.ownsRow w.heap.size 5 1 vb' (bs.length + 1) (u8V bs ++ u8V [(fstT (c :: r)).2.1])) (hT : Turned (fun j => vb.ownBlock = some j) W w4) (hk : ∀ k, vb'.ownBlock = some k → vb.ownBlock = some k ∨ W.heap.size ≤ k) :
    TplI w w4 o K k' (rest.extract (fstT (c :: r)).2.2 rest.size) ps (bs ++ [(fstT (c :: r)).2.1]) v vb' := by
  have hz := size_cons hl
  refine ⟨?_, ?_, ownsRow_turned h.p hT fun k hv e => h.a k hv e, ?_, h.w.trans (hT.below h.w.size fun k hk => (World.ownsRow.lt h.b k hk).1), fun k hv e => ?_⟩
  · rw [h.o, hl, tplF, if_neg h0, if_pos h1, drop_of, hl]
  · have := h.k
    simp only [ByteArray.size_extract, List.length_append, List.length_cons, List.length_nil]
    omega
  · rw [List.length_append, u8V_append]
    exact hown
  · rcases hk k e with h2 | h2
    · exact h.a k hv h2
    · have := (World.ownsRow.lt h.p k hv).2
      omega
/-- A group more. -/
theorem TplI.group {w W w3 w4 : World} {o : Option (List Pc)} {K k' : Nat} {rest : ByteArray} {ps : List Pc} {bs : List UInt8} {v v3 v4 : Value} {A : Option Addr} {cp : Nat} {c : UInt8} {r : List UInt8} (h : TplI w W o K (k' + 1) rest ps bs v (.slice A bs.length cp)) (hl : rest.data.toList = c :: r) (h0 : (fstT (c :: r)).2.2 ≠ 0) (h1 : (fstT (c :: r)).1 ≠ -1)
    (hT3 : Turned (fun j => v.ownBlock = some j) W w3) (hk3 : ∀ k, v3.ownBlock = some k → v.ownBlock = some k ∨ W.heap.size ≤ k)
    (hown : w4.ownsRow w.heap.size 109 2 v4 ((withP ps bs).length + 1) (pcsV (withP ps bs) ++ pcsV [(⟨#[]⟩, (fstT (c :: r)).1)])) (hT4 : Turned (fun j => v3.ownBlock = some j) w3 w4) (hk4 : ∀ k, v4.ownBlock = some k → v3.ownBlock = some k ∨ w3.heap.size ≤ k) :
    TplI w w4 o K k' (rest.extract (fstT (c :: r)).2.2 rest.size) (withP ps bs ++ [(⟨#[]⟩, (fstT (c :: r)).1)]) [] v4 (.slice A 0 cp) := by
  have hz := size_cons hl
  have hlen := withP_len ps bs
  have hsz := hT3.size
  have hT : Turned (fun j => v.ownBlock = some j) W w4 := hT3.trans hT4 fun i hi e => by
    rcases hk3 i e with h2 | h2
    · exact h2
    · omega
  have hk : ∀ k, v4.ownBlock = some k → v.ownBlock = some k ∨ W.heap.size ≤ k := fun k e => by
    rcases hk4 k e with h2 | h2
    · exact hk3 k h2
    · exact .inr (by omega)
  refine ⟨?_, ?_, ?_, own_cut (ownsRow_turned h.b hT fun k hv e => h.a k e hv), h.w.trans (hT.below h.w.size fun k hk => (World.ownsRow.lt h.p k hk).1), fun k hv e => ?_⟩
  · rw [h.o, hl, tplF, if_neg h0, if_neg h1, drop_of, hl]
  · have := h.k
    simp only [ByteArray.size_extract, List.length_append, List.length_cons, List.length_nil]
    omega
  · unfold PcOwn
    rw [List.length_append, pcsV_append]
    exact hown
  · have e2 : (Value.slice A bs.length cp).ownBlock = some k := by
      cases A with
      | none => exact e
      | some a => exact e
    rcases hk k hv with h2 | h2
    · exact h.a k h2 e2
    · have := (World.ownsRow.lt h.b k e2).2
      omega
set_option maxRecDepth 100000 in
set_option maxHeartbeats 4000000 in
theorem tpl_is (s : ByteArray) (hz : s.size ≤ 100000) (w : World) : Calls Try.prog 56 #[.string s] w (TplA (tplF s.size [] [] s.data.toList) w) := by
  obtain ⟨o, eo⟩ : ∃ o, o = tplF s.size [] [] s.data.toList := ⟨_, rfl⟩
  rw [← eo]
  have HS := Lib.hid (show TplI w w o s.size s.size s [] [] (.slice none 0 0) (.slice none 0 0) from ⟨eo, ⟨Nat.le_refl _, by simp, by simp⟩, World.ownsRow_nil _ _ _ _, World.ownsRow_nil _ _ _ _, Below.refl _ _, fun k h => by cases h⟩)
  obtain ⟨K, hK⟩ : ∃ K, K = s.size := ⟨_, rfl⟩
  have HK := Lib.hid (show K ≤ 100000 by omega)
  rw [← hK] at HS
  clear eo hz hK
  go_enter Try.func56, Try.ntmps56
  go_wp2_with fail
  refine wp_scope_again 0 (fun a' w' => ∃ (rest : ByteArray) (ps : List Pc) (bs : List UInt8) (v vb : Value) (k : Nat) (u6 u7 u8 u9 u10 u11 u12 u13 u14 u15 u16 u17 u18 u19 u20 u21 u22 u23 u24 u25 u26 u27 u28 u29 u30 u31 u32 u33 u34 u35 u36 u37 u38 u39 : Value), Hid (TplI w w' o K k rest ps bs v vb) ∧ a' = { tmps := #[.string rest, undef, .slice none 0 0, .int .i64 0, v, vb, u6, u7, u8, u9, u10, u11, u12, u13, u14, u15, u16, u17, u18, u19, u20, u21, u22, u23, u24, u25, u26, u27, u28, u29, u30, u31, u32, u33, u34, u35, u36, u37, u38, u39], defers := [] }) (fun a' _ => strLen1 (a'.tmps.getD 0 undef)) rfl ?_ ?_
  · intro hp
    have HP := Lib.hid hp
    clear hp
    go_wp2_with fail
    go_step3
    simp only [Exit.then]
    rename_i hKK
    exact hKK _ _ (HP.out _ _ ⟨s, [], [], _, _, _, _, _, _, _, _, _, _, _, _, _, _, _, _, _, _, _, _, _, _, _, _, _, _, _, _, _, _, _, _, _, _, _, _, _, HS, rfl⟩)
  · rintro a' wr ⟨rest, ps, bs, v, vb, k, u6, u7, u8, u9, u10, u11, u12, u13, u14, u15, u16, u17, u18, u19, u20, u21, u22, u23, u24, u25, u26, u27, u28, u29, u30, u31, u32, u33, u34, u35, u36, u37, u38, u39, HI, rfl⟩
    obtain ⟨A, cp, hvb, _, hra, _⟩ := own_form HI.out.b
    subst hvb
    match hl : rest.data.toList with
    | [] =>
      have hem : rest.toList.isEmpty = true := by rw [isEmpty_of, hl]; rfl
      have HE := Lib.hid (show o = some (withP ps bs) by rw [HI.out.o, hl]; cases k <;> simp [tplF])
      have HW := Lib.hid (wtext_is (c := cp) HI.out.p hra HI.out.w.size (by have := HI.out.k; have := HK.out; omega))
      clear hl hra
      go_wp2_with fail
      go_at_call 65
      refine HW.out.mono ?_
      rintro e w1 ⟨v', rfl, hv', hT, hk'⟩
      have HB := Lib.hid (show PcOwn w1 w.heap.size v' (withP ps bs) ∧ Below w.heap.size w w1 from ⟨hv', HI.out.w.trans (hT.below HI.out.w.size fun k hk => (World.ownsRow.lt HI.out.p k hk).1)⟩)
      clear hv' hT hk' HW
      go_wp2_with fail
      simp only [Exit.jump]
      go_ret2
      rw [HE.out]
      exact ⟨HB.out.2, _, rfl, HB.out.1⟩
    | c :: r =>
      have hem : rest.toList.isEmpty = false := by rw [isEmpty_of, hl]; rfl
      obtain ⟨k', rfl⟩ : ∃ k', k = k' + 1 := ⟨k - 1, by have h1 := size_cons hl; have h2 := HI.out.k.1; omega⟩
      have HF := Lib.hid fun W => first_is (s := rest) c r hl W
      obtain ⟨R, hR⟩ : ∃ R, R = fstT (c :: r) := ⟨_, rfl⟩
      have hn : R.2.2 ≤ rest.size := by have h1 := fst_size c r; rw [hR, size_cons hl]; simpa using h1
      rw [← hR] at HF
      have HR := Lib.hid hR
      have HL := Lib.hid hl
      unfold FstA at HF
      clear hR hl hra
      obtain ⟨g, x, n⟩ := R
      simp only at HF hn
      by_cases h0 : n = 0
      · subst h0
        have HE := Lib.hid (show o = none by rw [HI.out.o, HL.out, tplF, if_pos (by rw [← HR.out])])
        go_wp2_with fail
        go_at_call 66
        refine (HF.out wr).mono ?_
        rintro e w1 ⟨rfl, hb1⟩
        have HB := Lib.hid (HI.out.next hb1)
        clear hb1 HF
        go_wp2_with fail
        simp only [Exit.jump]
        go_ret2
        rw [HE.out]
        exact ⟨HB.out.w, rfl⟩
      · have z0 : ((n : Int) == 0) = false := by rw [beq_eq_false_iff_ne]; omega
        have z0n : (n == 0) = false := by rw [beq_eq_false_iff_ne]; exact h0
        have hni : (n : Int) ≤ (rest.size : Int) := by omega
        have H0 := Lib.hid h0
        by_cases hg : g = -1
        · subst hg
          clear h0
          go_wp2_with fail
          go_at_call 66
          refine (HF.out wr).mono ?_
          rintro e w1 ⟨rfl, hb1⟩
          have HN := Lib.hid ((HI.out.next hb1).next (bW w1 (.cells #[.int .u8 (x.toNat : Int)] 5)))
          have HV := Lib.hid (raw_new w1 [.int .u8 (x.toNat : Int)] 5)
          have HQ := Lib.hid (show bs.length + 1 ≤ 1099511627776 by have := HI.out.k; have := HK.out; omega)
          clear hb1 HF
          go_wp2_with (refine wpList_append_raw 30 (u8V [x]) rp_elem_u8 HN.out.b HV.out rfl oneCell_u8 rfl rfl HQ.out HN.out.w.size ?_)
          intro v' w4 hv' hT hk'
          have HX := Lib.hid (TplI.byte (c := c) (r := r) HN.out HL.out (by rw [← HR.out]; exact H0.out) (by rw [← HR.out]) (by rw [← HR.out]; exact hv') hT hk')
          rw [← HR.out] at HX
          have HM := Lib.hid hn
          clear hv' hT hk' z0 z0n hni hn
          go_wp2_with fail
          go_step3
          exact ⟨rfl, ⟨_, _, _, _, _, _, _, _, _, _, _, _, _, _, _, _, _, _, _, _, _, _, _, _, _, _, _, _, _, _, _, _, _, _, _, _, _, _, _, _, HX, rfl⟩, by simp [strLen1]; have := HM.out; have := H0.out; omega⟩
        · have zg : (g == -1) = false := by rw [beq_eq_false_iff_ne]; exact hg
          have HG := Lib.hid hg
          clear h0 hg
          go_wp2_with fail
          go_at_call 66
          refine (HF.out wr).mono ?_
          rintro e w1 ⟨rfl, hb1⟩
          have HN := Lib.hid (HI.out.next hb1)
          clear hb1 HF
          have HW := Lib.hid (wtext_is (c := cp) HN.out.p (own_form HN.out.b |>.elim fun A' ⟨c', e, h1, h2, h3⟩ => by cases e; exact h2) HN.out.w.size (by have := HI.out.k; have := HK.out; omega))
          go_wp2_with fail
          go_at_call 65
          refine HW.out.mono ?_
          rintro e w3 ⟨v3, rfl, hv3, hT3, hk3⟩
          have HD := Lib.hid (bW w3 (.cells #[.string ⟨#[]⟩, .int .i64 g] 109))
          have HO := Lib.hid (show (w3.alloc (.cells #[.string ⟨#[]⟩, .int .i64 g] 109)).ownsRow w.heap.size 109 2 v3 (withP ps bs).length (pcsV (withP ps bs)) from ownsRow_turned hv3 (Turned.of_below (S := fun _ => False) HD.out) (fun _ _ h => h))
          have HV := Lib.hid (raw_new w3 [.string ⟨#[]⟩, .int .i64 g] 109)
          have HQ := Lib.hid (show (withP ps bs).length + 1 ≤ 1099511627776 ∧ w.heap.size ≤ (w3.alloc (.cells #[.string ⟨#[]⟩, .int .i64 g] 109)).heap.size by
            have h1 := HI.out.k; have h2 := HK.out; have h3 := withP_len ps bs; have h4 := HN.out.w.size; have h5 := hT3.size
            rw [World.size_alloc]
            omega)
          have H3 := Lib.hid (And.intro hT3 hk3)
          clear hv3 hT3 hk3 HW
          go_wp2_with (refine wpList_append_raw 37 (pcsV [(⟨#[]⟩, g)]) elem_piece HO.out HV.out rfl oneCell_pcs rfl rfl HQ.out.1 HQ.out.2 ?_)
          intro v4 w4 hv4 hT4 hk4
          have HX := Lib.hid (TplI.group (c := c) (r := r) HN.out HL.out (by rw [← HR.out]; exact H0.out) (by rw [← HR.out]; exact HG.out) (H3.out.1.trans (Turned.of_below (S := fun _ => False) HD.out) (fun _ _ h => h.elim)) (fun k hk => H3.out.2 k hk) (by rw [← HR.out]; exact hv4) hT4 hk4)
          rw [← HR.out] at HX
          have HM := Lib.hid hn
          clear hv4 hT4 hk4 z0 z0n hni hn zg
          go_wp2_with fail
          go_step3
          exact ⟨rfl, ⟨_, _, _, _, _, _, _, _, _, _, _, _, _, _, _, _, _, _, _, _, _, _, _, _, _, _, _, _, _, _, _, _, _, _, _, _, _, _, _, _, HX, rfl⟩, by simp [strLen1]; have := HM.out; have := H0.out; omega⟩
end Go.Proofs.Ytncbmdbfdjhkeaa
