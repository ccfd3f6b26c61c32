/-
  The document's answer's Set, walked. Condition: the list given rises, and is no longer than 2^40 files.
-/
import Derived.Test.YtcjbhjbjkfgphaaTref3
import Derived.Deep.CutRange
namespace Go.Proofs.Ytcjbhjbjkfgphaa
open Go.RowKit Go.Deep

theorem FilesAt.new' (w : World) (p : ByteArray) (ver : Int) (t : ByteArray) : FilesAt (w.alloc (.cells #[.string p, .int .i64 ver, .string t] 49)) (some ⟨w.heap.size, 0, none⟩) [⟨p, ver, t⟩] := FilesAt.new w ⟨p, ver, t⟩
theorem FilesOwn.start (w : World) (base : Nat) (hb : base ≤ w.heap.size) : FilesOwn (w.alloc (.cells #[] 49)) base (.slice (some ⟨w.heap.size, 0, none⟩) 0 0) [] :=
  ⟨rfl, .inr ⟨w.heap.size, 0, #[], rfl, hb, heap_alloc_new w _, Nat.le_refl _, by unfold maxLen; omega, rfl, rfl⟩⟩
set_option maxRecDepth 100000 in
/-- Files put behind a row that is there, none of them, too. -/
theorem wpList_append_onto {ops : Array Oper} {rest : List Oper} {a : Act} {Q : Exit → Act → World → Prop} {s x : Operand} {ps : String} {af : Array Edge} {w : World} {base g n c k cap : Nat} {fs : List FileM} {A : Option Addr} (d : Tmp) (f2 : List FileM) (hown : FilesOwn w base (.slice (some ⟨g, 0, none⟩) n c) fs) (hat : FilesAt w A f2)
    (hs : a.eval s = .slice (some ⟨g, 0, none⟩) n c) (hx : a.eval x = .slice A k cap) (hk : k = f2.length) (hn : fs.length + f2.length ≤ 1099511627776) (hbase : base ≤ w.heap.size)
    (h : ∀ v' w', FilesOwn w' base v' (fs ++ f2) → Turned (fun j => base ≤ j) w w' → wpList Try.prog ops Q rest (a.put (some d) v') w') :
    wpList Try.prog ops Q ({ dst := some d, op := .call { callee := .builtin .append, args := #[s, x], argTypes := #[30, 30] }, type := 30, pos := ps, after := af, guard := none } :: rest) a w := by
  by_cases h0 : 0 < f2.length
  · exact wpList_append_files d f2 hown hat hs hx hk h0 hn hbase (fun v' w' ho ht _ => h v' w' ho ⟨ht.os, ht.tape, ht.output, ht.size, fun j hj hn => ht.block j hj (fun e => hn (hown.lt j e).1)⟩)
  · have he : f2 = [] := List.eq_nil_of_length_eq_zero (by omega)
    subst he
    simp only [List.length_nil] at hk
    subst hk
    have hnc : n ≤ c := by
      rcases hown.2 with ⟨e, _⟩ | ⟨g', cap', cur, e, _, _, hle, _⟩
      · simp at e
      · simp only [Value.slice.injEq] at e
        omega
    refine wpList_append_none d hnc hs hx (h _ w (by rw [List.append_nil]; exact hown) ⟨rfl, rfl, rfl, Nat.le_refl _, fun _ _ _ => rfl⟩)

set_option maxHeartbeats 1000000 in
theorem ref_set_path (v : Value) (p : ByteArray) (ver : Int) (t : ByteArray) (w : World) (hp : p.size ≤ 1099511627776) (hno : ¬ RightP p) :
    Calls Try.prog 11 #[v, .string p, .int .i64 ver, .string t] w fun e w' => e = .returned (.tuple #[.slice none 0 0, .int .i64 71]) ∧ w = w' := by
  have hr := ref_right p w hp
  rw [decide_eq_false hno] at hr
  have HR := Lib.hid hr
  clear hr hp hno
  go_enter Try.func11, Try.ntmps11
  go_wp2_with fail
  go_at_call 15
  (with_reducible refine HR.out.mono ?_)
  rintro e w1 ⟨rfl, rfl⟩
  go_wp2_with fail
  go_ret2
  exact ⟨rfl, rfl⟩

set_option maxRecDepth 100000 in
set_option maxHeartbeats 8000000 in
theorem ref_set (fs : List FileM) (A : Option Addr) (n c : Nat) (p : ByteArray) (ver : Int) (t : ByteArray) (w : World) (hat : FilesAt w A fs) (hn : n = fs.length) (hl : fs.length ≤ 1099511627776) (hrise : Rising fs) (hp : p.size ≤ 1099511627776) (hright : RightP p) (hroom : (dropF fs p).length < 1024) :
    Calls Try.prog 11 #[.slice A n c, .string p, .int .i64 ver, .string t] w (SetAns fs ⟨p, ver, t⟩ w) := by
  have hr := ref_right p w hp
  rw [decide_eq_true hright] at hr
  have HR := Lib.hid hr
  obtain ⟨old, eold⟩ : ∃ old, old = dropF fs p := ⟨_, rfl⟩
  have hput : putF old ⟨p, ver, t⟩ = putF fs ⟨p, ver, t⟩ := by
    rw [eold]
    exact putF_drop (f := ⟨p, ver, t⟩) hrise
  have hro : Rising old := by rw [eold]; exact rising_sub _ hrise
  have hne : ∀ x ∈ old, x.path ≠ p := by
    intro x hx
    rw [eold] at hx
    have := (List.mem_filter.1 hx).2
    simpa using this
  rw [← eold] at hroom
  have HPUT := Lib.hid (And.intro hput (And.intro hro hne))
  obtain ⟨n1, en1⟩ : ∃ k, k = old.length := ⟨_, rfl⟩
  obtain ⟨m, em⟩ : ∃ k, k = n1 + 1 := ⟨_, rfl⟩
  have hn1024 : n1 < 1024 := by omega
  have g1 : decide ((1024 : Int) ≤ (n1 : Int)) = false := decide_eq_false (by omega)
  have g1n : decide (1024 ≤ n1) = false := decide_eq_false (by omega)
  have q0 : IntKind.i64.wrap ((m : Int) - 1) = (n1 : Int) := by rw [show (m : Int) - 1 = (n1 : Int) by omega]; exact IntWalk.i64_in _ (by omega)
  have u0 : (m : Int) - 1 = (n1 : Int) := by omega
  have u1 : wrap64 (n1 : Int) = (n1 : Int) := IntWalk.wrap64_in _ (by omega)
  have HNL := Lib.hid en1
  have HM := Lib.hid em
  by_cases hfind : findF fs p = none
  · have hd := ref_drop_none fs A n c p w hat hn hl hfind
    have ho : old = fs := by rw [eold]; exact dropF_none hfind
    have hnn : n = n1 := by rw [en1, ho]; exact hn
    subst hnn
    have HD := Lib.hid hd
    have HAT := Lib.hid (show FilesAt w A old by rw [ho]; exact hat)
    have HB := Lib.hid (Below.refl w.heap.size w)
    clear hr hd hat hn hl hrise hp hright hroom hput hro hne eold hfind ho en1 em
    go_enter Try.func11, Try.ntmps11
    go_wp2_with fail
    go_at_call 15
    (with_reducible refine HR.out.mono ?_)
    rintro e w1 ⟨rfl, rfl⟩
    go_wp2_with fail
    go_at_call 13
    (with_reducible refine HD.out.mono ?_)
    rintro e w1 ⟨rfl, rfl⟩
    have HE := Lib.hid (FilesOwn.start w w.heap.size HB.out.size)
    have HAT2 := Lib.hid (HAT.out.below ((Below.refl w.heap.size w).alloc (Nat.le_refl _) (.cells #[] 49)))
    have HBA := Lib.hid (HB.out.alloc HB.out.size (.cells #[] 49))
    have HLE := Lib.hid (show ([] : List FileM).length + old.length ≤ 1099511627776 by have := HNL.out; simp only [List.length_nil]; omega)
    go_wp2_with ((refine wpList_append_onto 34 old HE.out HAT2.out rfl rfl HNL.out HLE.out HBA.out.size ?_))
    intro v5 w5 ho5 ht5
    rw [List.nil_append] at ho5
    have HB5 := Lib.hid (HBA.out.trans (ht5.below HBA.out.size (fun k hk => hk)))
    have HO5 := Lib.hid (ho5.below ((Below.refl w5.heap.size w5).alloc (Nat.le_refl _) (.cells #[.string p, .int .i64 ver, .string t] 49)))
    have HNEW := Lib.hid (FilesAt.new' w5 p ver t)
    have HBA5 := Lib.hid (HB5.out.alloc HB5.out.size (.cells #[.string p, .int .i64 ver, .string t] 49))
    have HLE5 := Lib.hid (show old.length + [FileM.mk p ver t].length ≤ 1099511627776 by have := HNL.out; simp only [List.length_cons, List.length_nil]; omega)
    clear ho5 ht5
    go_wp2_with ((refine wpList_append_files 40 [FileM.mk p ver t] HO5.out HNEW.out rfl rfl rfl Nat.zero_lt_one HLE5.out HBA5.out.size ?_))
    intro v6 w6 ho6 ht6 _
    have HB6 := Lib.hid (HBA5.out.trans (ht6.below HBA5.out.size (fun k hk => (HO5.out.lt k hk).1)))
    obtain ⟨A6, c6, e6, hat6⟩ := ho6.form
    obtain ⟨g6, o6, eA6, _⟩ := hat6 old.length ⟨p, ver, t⟩ (by simp)
    have eg : o6 = 0 ∧ A6 = some ⟨g6, 0, none⟩ := by
      rcases ho6.2 with ⟨_, hz⟩ | ⟨g', cap', cur', e', _⟩
      · simp at hz
      · rw [e6] at e'
        simp only [Value.slice.injEq] at e'
        rw [eA6] at e'
        simp only [Option.some.injEq, Addr.mk.injEq] at e'
        obtain ⟨⟨h1, h2, _⟩, _⟩ := e'
        exact ⟨h2, by rw [eA6, h2]⟩
    rw [eg.2, List.length_append, List.length_singleton, ← HNL.out, ← HM.out] at e6
    subst e6
    have HINS := Lib.hid (show InsRel w w.heap.size g6 m c6 old ⟨p, ver, t⟩ (.int .i64 (n : Int)) w6 from ⟨n, old, [], rfl, HNL.out.symm, (List.append_nil _).symm, fun x hx => (by cases hx), ho6, HB6.out⟩)
    clear ho6 ht6 hat6 eA6 eg
    go_wp2_with fail
    go_loopw [14] (fun kv wr => InsRel w w.heap.size g6 m c6 old ⟨p, ver, t⟩ kv wr) (fun kv _ => (intOf kv).toNat)
    case atStart => exact HINS.out
    case round =>
      obtain ⟨k, pre, suf, rfl, hk, ho, hsuf, hown, hb⟩ := hrel
      have hml : m = (pre ++ FileM.mk p ver t :: suf).length := by
        have h1 := HM.out
        have h2 := HNL.out
        rw [ho] at h2
        simp only [List.length_append, List.length_cons] at h2 ⊢
        omega
      obtain ⟨hput, hro, hne⟩ := HPUT.out
      rw [ho] at hput hro
      rw [ho] at hne
      have HO := Lib.hid hown
      have HBW := Lib.hid hb
      have HSUF := Lib.hid hsuf
      have HOLD := Lib.hid ho
      have HKL := Lib.hid hk
      have HML := Lib.hid hml
      rcases List.eq_nil_or_concat pre with hpn | ⟨pre1, q, hpq⟩
      · subst hpn
        have hk0 : k = 0 := by rw [← hk]; rfl
        have g2 : decide (0 < (k : Int)) = false := decide_eq_false (by omega)
        have g2n : decide (0 < k) = false := decide_eq_false (by omega)
        have HFIN := Lib.hid (show putF fs ⟨p, ver, t⟩ = [] ++ FileM.mk p ver t :: suf by
          rw [← hput]
          exact putF_mid (fun x hx => by cases hx) hsuf)
        clear hk ho hsuf hown hb hml hput hro hne hk0
        go_wp2_with fail
        go_quiet (fail)
        have hbq : Below wr.heap.size wr (wr.drewN nq) := ⟨rfl, rfl, rfl, Nat.le_refl _, fun _ _ => rfl⟩
        generalize wr.drewN nq = v0 at hbq ⊢
        have HO0 := Lib.hid (HO.out.below hbq)
        have HBQ := Lib.hid (HBW.out.trans (hbq.mono HBW.out.size))
        clear hbq
        go_wp2_with fail
        go_ret2
        exact ⟨_, rfl, by rw [HFIN.out]; exact HO0.out, HBQ.out⟩
      · rw [List.concat_eq_append] at hpq
        subst hpq
        obtain ⟨k1, ek1⟩ : ∃ k1, k1 = pre1.length := ⟨_, rfl⟩
        have hkk : k = k1 + 1 := by rw [← hk, ek1]; simp
        obtain ⟨A7, c7, e7, hat7⟩ := hown.form
        have hlen7 : (pre1 ++ [q] ++ FileM.mk p ver t :: suf)[k]? = some ⟨p, ver, t⟩ := by
          rw [List.getElem?_append_right (by rw [← hk]; exact Nat.le_refl _), ← hk, Nat.sub_self]
          rfl
        have hlenq : (pre1 ++ [q] ++ FileM.mk p ver t :: suf)[k1]? = some q := by
          rw [List.append_assoc, List.getElem?_append_right (by omega), ek1, Nat.sub_self]
          rfl
        obtain ⟨ga, oa, ea, hra⟩ := hat7 k _ hlen7
        obtain ⟨gb, ob, eb, hrb⟩ := hat7 k1 _ hlenq
        simp only [Value.slice.injEq] at e7
        rw [ea] at eb e7
        simp only [Option.some.injEq, Addr.mk.injEq, and_true] at eb e7
        obtain ⟨⟨ea1, ea2⟩, e7m, e7c⟩ := e7
        clear e7m e7c
        obtain ⟨eb1, eb2⟩ := eb
        rw [← eb1, ← ea1, ← eb2, ← ea2] at hrb
        rw [← ea1, ← ea2] at hra
        have hc : ∀ W, Below wr.heap.size wr W → (W.cell? ⟨g6, k * 3, none⟩ = some (.string p) ∧ W.cell? ⟨g6, k * 3 + 1, none⟩ = some (.int .i64 ver) ∧ W.cell? ⟨g6, k * 3 + 2, none⟩ = some (.string t)) ∧ (W.cell? ⟨g6, k1 * 3, none⟩ = some (.string q.path) ∧ W.cell? ⟨g6, k1 * 3 + 1, none⟩ = some (.int .i64 q.ver) ∧ W.cell? ⟨g6, k1 * 3 + 2, none⟩ = some (.string q.text)) := fun W hW => by
          have lt6 := World.block_lt_of_cell? wr _ (hra 0 _ rfl)
          have z : ∀ (o : Nat) v, wr.cell? ⟨g6, o, none⟩ = some v → W.cell? ⟨g6, o, none⟩ = some v := fun o v h => (hW.cell (p := ⟨g6, o, none⟩) lt6).trans h
          have a0 := z _ _ (hra 0 _ rfl)
          have a1 := z _ _ (hra 1 _ rfl)
          have a2 := z _ _ (hra 2 _ rfl)
          have b0 := z _ _ (hrb 0 _ rfl)
          have b1 := z _ _ (hrb 1 _ rfl)
          have b2 := z _ _ (hrb 2 _ rfl)
          simp only [Nat.zero_add, Nat.add_zero] at a0 a1 a2 b0 b1 b2
          exact ⟨⟨a0, a1, a2⟩, b0, b1, b2⟩
        obtain ⟨⟨a0, a1, a2⟩, b0, b1, b2⟩ := hc wr (Below.refl _ _)
        have hkm : k < m := by rw [hml]; exact (List.getElem?_eq_some_iff.1 hlen7).1
        have hm1025 : m ≤ 1025 := by have := HM.out; omega
        have g2 : decide (0 < (k : Int)) = true := decide_eq_true (by omega)
        have g2n : decide (0 < k) = true := decide_eq_true (by omega)
        have hkI : (k : Int) < (m : Int) := by omega
        have hk0 : (0 : Int) ≤ (k : Int) := by omega
        have hk1I : (k1 : Int) < (m : Int) := by omega
        have hk10 : (0 : Int) ≤ (k1 : Int) := by omega
        have q2 : IntKind.i64.wrap ((k : Int) - 1) = (k1 : Int) := by rw [show (k : Int) - 1 = (k1 : Int) by omega]; exact IntWalk.i64_in _ (by omega)
        have u2 : (k : Int) - 1 = (k1 : Int) := by omega
        have u3 : wrap64 (k1 : Int) = (k1 : Int) := IntWalk.wrap64_in _ (by omega)
        have HCC := Lib.hid hc
        have HKM := Lib.hid (And.intro (List.getElem?_eq_some_iff.1 hlen7).1 (List.getElem?_eq_some_iff.1 hlenq).1)
        have HK1 := Lib.hid (And.intro ek1 hkk)
        cases hles : Op.bytesLess p.toList q.path.toList
        · have HFIN := Lib.hid (show putF fs ⟨p, ver, t⟩ = pre1 ++ [q] ++ FileM.mk p ver t :: suf by
            rw [← hput]
            have hq : pless q.path p = true := pless_tri hles (fun e => hne q (by simp) e.symm)
            have hro2 : Rising (pre1 ++ q :: suf) := by
              have := hro
              rw [List.append_assoc] at this
              exact this
            exact putF_mid (pre_less hro2 hq) hsuf)
          clear hk ho hsuf hown hb hml hput hro hne ek1 hkk hat7 hlen7 hlenq hra hrb ea ea1 ea2 eb1 eb2 hc hkm hm1025
          go_wp2_with fail
          go_quiet (fail)
          have hbq : Below wr.heap.size wr (wr.drewN nq) := ⟨rfl, rfl, rfl, Nat.le_refl _, fun _ _ => rfl⟩
          generalize wr.drewN nq = v0 at hbq ⊢
          have HO0 := Lib.hid (HO.out.below hbq)
          have HBQ := Lib.hid (HBW.out.trans (hbq.mono HBW.out.size))
          clear hbq a0 a1 a2 b0 b1 b2
          go_wp2_with fail
          go_ret2
          exact ⟨_, rfl, by rw [HFIN.out]; exact HO0.out, HBQ.out⟩
        · have HNX := Lib.hid (show ∀ x ∈ q :: suf, pless p x.path = true from fun x hx => by
            rcases List.mem_cons.1 hx with hx | hx
            · rw [hx]; exact hles
            · exact hsuf x hx)
          have HSW := Lib.hid (show ((pre1 ++ [q] ++ FileM.mk p ver t :: suf).set k q).set k1 ⟨p, ver, t⟩ = pre1 ++ FileM.mk p ver t :: (q :: suf) by
            rw [hkk, ek1]
            exact set_swap pre1 suf q ⟨p, ver, t⟩)
          have HO1 := Lib.hid (show old = pre1 ++ (q :: suf) by rw [ho, List.append_assoc]; rfl)
          clear hk ho hsuf hown hb hml hput hro hne ek1 hkk hat7 hlen7 hlenq hra hrb ea ea1 ea2 eb1 eb2 hc hkm hm1025
          go_wp2_with fail
          go_quiet (fail)
          have hbq : Below wr.heap.size wr (wr.drewN nq) := ⟨rfl, rfl, rfl, Nat.le_refl _, fun _ _ => rfl⟩
          generalize wr.drewN nq = v0 at hbq ⊢
          have HO0 := Lib.hid (HO.out.below hbq)
          have HBQ := Lib.hid (HBW.out.trans (hbq.mono HBW.out.size))
          clear a0 a1 a2 b0 b1 b2
          obtain ⟨⟨a0, a1, a2⟩, b0, b1, b2⟩ := HCC.out v0 hbq
          have HBX := Lib.hid hbq
          clear hbq
          have hlt6 : g6 < v0.heap.size := (HO0.out.lt g6 rfl).2
          have HLT6 := Lib.hid hlt6
          have hge6 : w.heap.size ≤ g6 := (HO0.out.lt g6 rfl).1
          have HGE6 := Lib.hid hge6
          have HO2 := Lib.hid (HO0.out.below ((Below.refl v0.heap.size v0).alloc (Nat.le_refl _) (.cells #[.string p, .int .i64 ver, .string t] 49)))
          have HBA2 := Lib.hid (HBQ.out.alloc HBQ.out.size (.cells #[.string p, .int .i64 ver, .string t] 49))
          have HBOX := Lib.hid (heap_alloc_new v0 (.cells #[.string p, .int .i64 ver, .string t] 49))
          clear hlt6 hge6
          obtain ⟨_, d0, d1, d2⟩ := HCC.out _ (HBX.out.trans (((Below.refl v0.heap.size v0).alloc (Nat.le_refl _) (.cells #[.string p, .int .i64 ver, .string t] 49)).mono HBX.out.size))
          go_wp2_with ((refine wpList_store_file k q HO2.out HML.out HKM.out.1 rfl rfl ?_))
          intro w8 ho8 ht8
          have hbox8 := ht8.obj HBOX.out (fun e => by have := HLT6.out; omega)
          have c0 : w8.cell? ⟨v0.heap.size, 0, none⟩ = some (.string p) := cell_of_row _ _ 0 _ _ _ hbox8
          have c1 : w8.cell? ⟨v0.heap.size, 1, none⟩ = some (.int .i64 ver) := cell_of_row _ _ 1 _ _ _ hbox8
          have c2 : w8.cell? ⟨v0.heap.size, 2, none⟩ = some (.string t) := cell_of_row _ _ 2 _ _ _ hbox8
          have HO8 := Lib.hid ho8
          have HB8 := Lib.hid (HBA2.out.trans (ht8.below HBA2.out.size (fun j hj => by rw [hj]; exact HGE6.out)))
          have HML8 := Lib.hid (show m = ((pre1 ++ [q] ++ FileM.mk p ver t :: suf).set k q).length by rw [List.length_set]; exact HML.out)
          have HKM8 := Lib.hid (show k1 < ((pre1 ++ [q] ++ FileM.mk p ver t :: suf).set k q).length by rw [List.length_set]; exact HKM.out.2)
          clear ho8 ht8 hbox8 a0 a1 a2 b0 b1 b2 d0 d1 d2
          go_wp2_with ((refine wpList_store_file k1 ⟨p, ver, t⟩ HO8.out HML8.out HKM8.out rfl rfl ?_))
          intro w9 ho9 ht9
          rw [HSW.out] at ho9
          have HO9 := Lib.hid ho9
          have HB9 := Lib.hid (HB8.out.trans (ht9.below HB8.out.size (fun j hj => by rw [hj]; exact HGE6.out)))
          clear ho9 ht9 c0 c1 c2
          go_wp2_with fail
          go_roundw
          case rel => exact ⟨k1, pre1, q :: suf, rfl, HK1.out.1.symm, HO1.out, HNX.out, HO9.out, HB9.out⟩
          case measure => have := HK1.out.2; simp [intOf]; omega
  · have hd := ref_drop fs A n c p w hat hn hl hfind
    have HD := Lib.hid hd
    clear hr hd hat hn hl hrise hp hright hroom hput hro hne hfind en1 em
    go_enter Try.func11, Try.ntmps11
    go_wp2_with fail
    go_at_call 15
    (with_reducible refine HR.out.mono ?_)
    rintro e w1 ⟨rfl, rfl⟩
    go_wp2_with fail
    go_at_call 13
    (with_reducible refine HD.out.mono ?_)
    rintro e wd ⟨v1, rfl, ho1, hb1⟩
    rw [← eold] at ho1
    obtain ⟨A1, c1, rfl, hat1⟩ := ho1.form
    rw [← HNL.out]
    have HAT := Lib.hid hat1
    have HB := Lib.hid hb1
    clear ho1 hat1 hb1 eold
    have HE := Lib.hid (FilesOwn.start wd w.heap.size HB.out.size)
    have HAT2 := Lib.hid (HAT.out.below ((Below.refl wd.heap.size wd).alloc (Nat.le_refl _) (.cells #[] 49)))
    have HBA := Lib.hid (HB.out.alloc HB.out.size (.cells #[] 49))
    have HLE := Lib.hid (show ([] : List FileM).length + old.length ≤ 1099511627776 by have := HNL.out; simp only [List.length_nil]; omega)
    go_wp2_with ((refine wpList_append_onto 34 old HE.out HAT2.out rfl rfl HNL.out HLE.out HBA.out.size ?_))
    intro v5 w5 ho5 ht5
    rw [List.nil_append] at ho5
    have HB5 := Lib.hid (HBA.out.trans (ht5.below HBA.out.size (fun k hk => hk)))
    have HO5 := Lib.hid (ho5.below ((Below.refl w5.heap.size w5).alloc (Nat.le_refl _) (.cells #[.string p, .int .i64 ver, .string t] 49)))
    have HNEW := Lib.hid (FilesAt.new' w5 p ver t)
    have HBA5 := Lib.hid (HB5.out.alloc HB5.out.size (.cells #[.string p, .int .i64 ver, .string t] 49))
    have HLE5 := Lib.hid (show old.length + [FileM.mk p ver t].length ≤ 1099511627776 by have := HNL.out; simp only [List.length_cons, List.length_nil]; omega)
    clear ho5 ht5
    go_wp2_with ((refine wpList_append_files 40 [FileM.mk p ver t] HO5.out HNEW.out rfl rfl rfl Nat.zero_lt_one HLE5.out HBA5.out.size ?_))
    intro v6 w6 ho6 ht6 _
    have HB6 := Lib.hid (HBA5.out.trans (ht6.below HBA5.out.size (fun k hk => (HO5.out.lt k hk).1)))
    obtain ⟨A6, c6, e6, hat6⟩ := ho6.form
    obtain ⟨g6, o6, eA6, _⟩ := hat6 old.length ⟨p, ver, t⟩ (by simp)
    have eg : o6 = 0 ∧ A6 = some ⟨g6, 0, none⟩ := by
      rcases ho6.2 with ⟨_, hz⟩ | ⟨g', cap', cur', e', _⟩
      · simp at hz
      · rw [e6] at e'
        simp only [Value.slice.injEq] at e'
        rw [eA6] at e'
        simp only [Option.some.injEq, Addr.mk.injEq] at e'
        obtain ⟨⟨h1, h2, _⟩, _⟩ := e'
        exact ⟨h2, by rw [eA6, h2]⟩
    rw [eg.2, List.length_append, List.length_singleton, ← HNL.out, ← HM.out] at e6
    subst e6
    have HINS := Lib.hid (show InsRel w w.heap.size g6 m c6 old ⟨p, ver, t⟩ (.int .i64 (n1 : Int)) w6 from ⟨n1, old, [], rfl, HNL.out.symm, (List.append_nil _).symm, fun x hx => (by cases hx), ho6, HB6.out⟩)
    clear ho6 ht6 hat6 eA6 eg
    go_wp2_with fail
    go_loopw [14] (fun kv wr => InsRel w w.heap.size g6 m c6 old ⟨p, ver, t⟩ kv wr) (fun kv _ => (intOf kv).toNat)
    case atStart => exact HINS.out
    case round =>
      obtain ⟨k, pre, suf, rfl, hk, ho, hsuf, hown, hb⟩ := hrel
      have hml : m = (pre ++ FileM.mk p ver t :: suf).length := by
        have h1 := HM.out
        have h2 := HNL.out
        rw [ho] at h2
        simp only [List.length_append, List.length_cons] at h2 ⊢
        omega
      obtain ⟨hput, hro, hne⟩ := HPUT.out
      rw [ho] at hput hro
      rw [ho] at hne
      have HO := Lib.hid hown
      have HBW := Lib.hid hb
      have HSUF := Lib.hid hsuf
      have HOLD := Lib.hid ho
      have HKL := Lib.hid hk
      have HML := Lib.hid hml
      rcases List.eq_nil_or_concat pre with hpn | ⟨pre1, q, hpq⟩
      · subst hpn
        have hk0 : k = 0 := by rw [← hk]; rfl
        have g2 : decide (0 < (k : Int)) = false := decide_eq_false (by omega)
        have g2n : decide (0 < k) = false := decide_eq_false (by omega)
        have HFIN := Lib.hid (show putF fs ⟨p, ver, t⟩ = [] ++ FileM.mk p ver t :: suf by
          rw [← hput]
          exact putF_mid (fun x hx => by cases hx) hsuf)
        clear hk ho hsuf hown hb hml hput hro hne hk0
        go_wp2_with fail
        go_quiet (fail)
        have hbq : Below wr.heap.size wr (wr.drewN nq) := ⟨rfl, rfl, rfl, Nat.le_refl _, fun _ _ => rfl⟩
        generalize wr.drewN nq = v0 at hbq ⊢
        have HO0 := Lib.hid (HO.out.below hbq)
        have HBQ := Lib.hid (HBW.out.trans (hbq.mono HBW.out.size))
        clear hbq
        go_wp2_with fail
        go_ret2
        exact ⟨_, rfl, by rw [HFIN.out]; exact HO0.out, HBQ.out⟩
      · rw [List.concat_eq_append] at hpq
        subst hpq
        obtain ⟨k1, ek1⟩ : ∃ k1, k1 = pre1.length := ⟨_, rfl⟩
        have hkk : k = k1 + 1 := by rw [← hk, ek1]; simp
        obtain ⟨A7, c7, e7, hat7⟩ := hown.form
        have hlen7 : (pre1 ++ [q] ++ FileM.mk p ver t :: suf)[k]? = some ⟨p, ver, t⟩ := by
          rw [List.getElem?_append_right (by rw [← hk]; exact Nat.le_refl _), ← hk, Nat.sub_self]
          rfl
        have hlenq : (pre1 ++ [q] ++ FileM.mk p ver t :: suf)[k1]? = some q := by
          rw [List.append_assoc, List.getElem?_append_right (by omega), ek1, Nat.sub_self]
          rfl
        obtain ⟨ga, oa, ea, hra⟩ := hat7 k _ hlen7
        obtain ⟨gb, ob, eb, hrb⟩ := hat7 k1 _ hlenq
        simp only [Value.slice.injEq] at e7
        rw [ea] at eb e7
        simp only [Option.some.injEq, Addr.mk.injEq, and_true] at eb e7
        obtain ⟨⟨ea1, ea2⟩, e7m, e7c⟩ := e7
        clear e7m e7c
        obtain ⟨eb1, eb2⟩ := eb
        rw [← eb1, ← ea1, ← eb2, ← ea2] at hrb
        rw [← ea1, ← ea2] at hra
        have hc : ∀ W, Below wr.heap.size wr W → (W.cell? ⟨g6, k * 3, none⟩ = some (.string p) ∧ W.cell? ⟨g6, k * 3 + 1, none⟩ = some (.int .i64 ver) ∧ W.cell? ⟨g6, k * 3 + 2, none⟩ = some (.string t)) ∧ (W.cell? ⟨g6, k1 * 3, none⟩ = some (.string q.path) ∧ W.cell? ⟨g6, k1 * 3 + 1, none⟩ = some (.int .i64 q.ver) ∧ W.cell? ⟨g6, k1 * 3 + 2, none⟩ = some (.string q.text)) := fun W hW => by
          have lt6 := World.block_lt_of_cell? wr _ (hra 0 _ rfl)
          have z : ∀ (o : Nat) v, wr.cell? ⟨g6, o, none⟩ = some v → W.cell? ⟨g6, o, none⟩ = some v := fun o v h => (hW.cell (p := ⟨g6, o, none⟩) lt6).trans h
          have a0 := z _ _ (hra 0 _ rfl)
          have a1 := z _ _ (hra 1 _ rfl)
          have a2 := z _ _ (hra 2 _ rfl)
          have b0 := z _ _ (hrb 0 _ rfl)
          have b1 := z _ _ (hrb 1 _ rfl)
          have b2 := z _ _ (hrb 2 _ rfl)
          simp only [Nat.zero_add, Nat.add_zero] at a0 a1 a2 b0 b1 b2
          exact ⟨⟨a0, a1, a2⟩, b0, b1, b2⟩
        obtain ⟨⟨a0, a1, a2⟩, b0, b1, b2⟩ := hc wr (Below.refl _ _)
        have hkm : k < m := by rw [hml]; exact (List.getElem?_eq_some_iff.1 hlen7).1
        have hm1025 : m ≤ 1025 := by have := HM.out; omega
        have g2 : decide (0 < (k : Int)) = true := decide_eq_true (by omega)
        have g2n : decide (0 < k) = true := decide_eq_true (by omega)
        have hkI : (k : Int) < (m : Int) := by omega
        have hk0 : (0 : Int) ≤ (k : Int) := by omega
        have hk1I : (k1 : Int) < (m : Int) := by omega
        have hk10 : (0 : Int) ≤ (k1 : Int) := by omega
        have q2 : IntKind.i64.wrap ((k : Int) - 1) = (k1 : Int) := by rw [show (k : Int) - 1 = (k1 : Int) by omega]; exact IntWalk.i64_in _ (by omega)
        have u2 : (k : Int) - 1 = (k1 : Int) := by omega
        have u3 : wrap64 (k1 : Int) = (k1 : Int) := IntWalk.wrap64_in _ (by omega)
        have HCC := Lib.hid hc
        have HKM := Lib.hid (And.intro (List.getElem?_eq_some_iff.1 hlen7).1 (List.getElem?_eq_some_iff.1 hlenq).1)
        have HK1 := Lib.hid (And.intro ek1 hkk)
        cases hles : Op.bytesLess p.toList q.path.toList
        · have HFIN := Lib.hid (show putF fs ⟨p, ver, t⟩ = pre1 ++ [q] ++ FileM.mk p ver t :: suf by
            rw [← hput]
            have hq : pless q.path p = true := pless_tri hles (fun e => hne q (by simp) e.symm)
            have hro2 : Rising (pre1 ++ q :: suf) := by
              have := hro
              rw [List.append_assoc] at this
              exact this
            exact putF_mid (pre_less hro2 hq) hsuf)
          clear hk ho hsuf hown hb hml hput hro hne ek1 hkk hat7 hlen7 hlenq hra hrb ea ea1 ea2 eb1 eb2 hc hkm hm1025
          go_wp2_with fail
          go_quiet (fail)
          have hbq : Below wr.heap.size wr (wr.drewN nq) := ⟨rfl, rfl, rfl, Nat.le_refl _, fun _ _ => rfl⟩
          generalize wr.drewN nq = v0 at hbq ⊢
          have HO0 := Lib.hid (HO.out.below hbq)
          have HBQ := Lib.hid (HBW.out.trans (hbq.mono HBW.out.size))
          clear hbq a0 a1 a2 b0 b1 b2
          go_wp2_with fail
          go_ret2
          exact ⟨_, rfl, by rw [HFIN.out]; exact HO0.out, HBQ.out⟩
        · have HNX := Lib.hid (show ∀ x ∈ q :: suf, pless p x.path = true from fun x hx => by
            rcases List.mem_cons.1 hx with hx | hx
            · rw [hx]; exact hles
            · exact hsuf x hx)
          have HSW := Lib.hid (show ((pre1 ++ [q] ++ FileM.mk p ver t :: suf).set k q).set k1 ⟨p, ver, t⟩ = pre1 ++ FileM.mk p ver t :: (q :: suf) by
            rw [hkk, ek1]
            exact set_swap pre1 suf q ⟨p, ver, t⟩)
          have HO1 := Lib.hid (show old = pre1 ++ (q :: suf) by rw [ho, List.append_assoc]; rfl)
          clear hk ho hsuf hown hb hml hput hro hne ek1 hkk hat7 hlen7 hlenq hra hrb ea ea1 ea2 eb1 eb2 hc hkm hm1025
          go_wp2_with fail
          go_quiet (fail)
          have hbq : Below wr.heap.size wr (wr.drewN nq) := ⟨rfl, rfl, rfl, Nat.le_refl _, fun _ _ => rfl⟩
          generalize wr.drewN nq = v0 at hbq ⊢
          have HO0 := Lib.hid (HO.out.below hbq)
          have HBQ := Lib.hid (HBW.out.trans (hbq.mono HBW.out.size))
          clear a0 a1 a2 b0 b1 b2
          obtain ⟨⟨a0, a1, a2⟩, b0, b1, b2⟩ := HCC.out v0 hbq
          have HBX := Lib.hid hbq
          clear hbq
          have hlt6 : g6 < v0.heap.size := (HO0.out.lt g6 rfl).2
          have HLT6 := Lib.hid hlt6
          have hge6 : w.heap.size ≤ g6 := (HO0.out.lt g6 rfl).1
          have HGE6 := Lib.hid hge6
          have HO2 := Lib.hid (HO0.out.below ((Below.refl v0.heap.size v0).alloc (Nat.le_refl _) (.cells #[.string p, .int .i64 ver, .string t] 49)))
          have HBA2 := Lib.hid (HBQ.out.alloc HBQ.out.size (.cells #[.string p, .int .i64 ver, .string t] 49))
          have HBOX := Lib.hid (heap_alloc_new v0 (.cells #[.string p, .int .i64 ver, .string t] 49))
          clear hlt6 hge6
          obtain ⟨_, d0, d1, d2⟩ := HCC.out _ (HBX.out.trans (((Below.refl v0.heap.size v0).alloc (Nat.le_refl _) (.cells #[.string p, .int .i64 ver, .string t] 49)).mono HBX.out.size))
          go_wp2_with ((refine wpList_store_file k q HO2.out HML.out HKM.out.1 rfl rfl ?_))
          intro w8 ho8 ht8
          have hbox8 := ht8.obj HBOX.out (fun e => by have := HLT6.out; omega)
          have c0 : w8.cell? ⟨v0.heap.size, 0, none⟩ = some (.string p) := cell_of_row _ _ 0 _ _ _ hbox8
          have c1 : w8.cell? ⟨v0.heap.size, 1, none⟩ = some (.int .i64 ver) := cell_of_row _ _ 1 _ _ _ hbox8
          have c2 : w8.cell? ⟨v0.heap.size, 2, none⟩ = some (.string t) := cell_of_row _ _ 2 _ _ _ hbox8
          have HO8 := Lib.hid ho8
          have HB8 := Lib.hid (HBA2.out.trans (ht8.below HBA2.out.size (fun j hj => by rw [hj]; exact HGE6.out)))
          have HML8 := Lib.hid (show m = ((pre1 ++ [q] ++ FileM.mk p ver t :: suf).set k q).length by rw [List.length_set]; exact HML.out)
          have HKM8 := Lib.hid (show k1 < ((pre1 ++ [q] ++ FileM.mk p ver t :: suf).set k q).length by rw [List.length_set]; exact HKM.out.2)
          clear ho8 ht8 hbox8 a0 a1 a2 b0 b1 b2 d0 d1 d2
          go_wp2_with ((refine wpList_store_file k1 ⟨p, ver, t⟩ HO8.out HML8.out HKM8.out rfl rfl ?_))
          intro w9 ho9 ht9
          rw [HSW.out] at ho9
          have HO9 := Lib.hid ho9
          have HB9 := Lib.hid (HB8.out.trans (ht9.below HB8.out.size (fun j hj => by rw [hj]; exact HGE6.out)))
          clear ho9 ht9 c0 c1 c2
          go_wp2_with fail
          go_roundw
          case rel => exact ⟨k1, pre1, q :: suf, rfl, HK1.out.1.symm, HO1.out, HNX.out, HO9.out, HB9.out⟩
          case measure => have := HK1.out.2; simp [intOf]; omega
end Go.Proofs.Ytcjbhjbjkfgphaa
