/-
  Package script: patterns, of addresses and of s. Condition: texts of at most 2000 bytes.
-/
import Derived.Test.YtncbmdbfdjhkeaaSg
namespace Go.Proofs.Ytncbmdbfdjhkeaa
open Go.RowKit Go.Deep Go.Sort

/-- What a pattern up to a delimiter is: whether it is the one used last, its tree, and where it ends. -/
noncomputable def patX (ext : Bool) (l : List UInt8) (n : Nat) (d : UInt8) : Option (Bool × Option PN × Nat) :=
  match cutG d false l (n : Int) with
  | none => none
  | some (p, m) => if p = [] then some (true, none, m) else match parseP bkOf ext p with
    | none => none
    | some t => some (false, some t, m)
theorem txt_data (l : List UInt8) : (txt l).data.toList = l := by simp [txt]
theorem full_txt {l : List UInt8} (h : l ≠ []) : (txt l).toList.isEmpty = false := by
  cases hx : (txt l).toList with
  | nil =>
    exfalso
    apply h
    rw [← txt_data l, ← ByteArray.toList_eq]
    exact hx
  | cons => rfl
theorem MaxAt.keep {w w' : World} {S : Nat → Prop} (h : MaxAt w) (ht : Turned S w w') (hn : ¬ S 0) : MaxAt w' := by
  obtain ⟨m, h⟩ := h
  exact ⟨m, ht.cell h hn⟩
theorem max_ne_rd {s : ByteArray} {ext : Bool} {r : Nat} {n : Int} {w : World} (h : MaxAt w) (hr : Rd s ext r n w) : 0 ≠ r := by
  rintro rfl
  obtain ⟨m, h⟩ := h
  rw [hr.text] at h
  cases h
theorem max_ne_cm {c : CX} {b : Nat} {w : World} (h : MaxAt w) (hc : Cm c b w) : 0 ≠ b := by
  rintro rfl
  obtain ⟨m, h⟩ := h
  rw [hc.cell 0 _ rfl] at h
  cases h
theorem max_ne_b1 {v : Bool} {T : TypeId} {b : Nat} {w : World} (h : MaxAt w) (hc : B1 (.bool v) T b w) : 0 ≠ b := by
  rintro rfl
  obtain ⟨m, h⟩ := h
  rw [hc.cell] at h
  cases h
theorem patV {x : Option PN} {s : Value} {f : FuncId} {W : World} {b : Value} (h : Calls Try.prog f #[s, b] W (ParseAns x W)) : Calls Try.prog f #[s, b] W fun e w' => ∃ (y : NV) (ec : Int), e = .returned (.tuple #[.agg y.cells.toArray, .int .i64 ec]) ∧ (ec == 0) = x.isSome ∧ Below W.heap.size W w' ∧ ∀ t, x = some t → IsP (fun k => k < W.heap.size) w' t y :=
  h.mono fun e w' h => by
    cases x with
    | none =>
      obtain ⟨rfl, hb⟩ := h
      exact ⟨NV.nil, 91, rfl, rfl, hb, fun t ht => by cases ht⟩
    | some t0 =>
      obtain ⟨y, rfl, hy, hb⟩ := h
      exact ⟨y, 0, rfl, rfl, hb, fun t ht => by injection ht with ht; subst ht; exact hy⟩
/-- The reader's, the command's box, and one of a truth. -/
structure PJs (s : ByteArray) (ext : Bool) (r b g : Nat) (n : Int) (c : CX) (ag : Bool) (W W' : World) : Prop where
  rd : Rd s ext r n W'
  cm : Cm c b W'
  bx : B1 (.bool ag) 4 g W'
  tu : Turned (fun k => k = r ∨ k = b ∨ k = g) W W'
theorem PJs.below {s : ByteArray} {ext : Bool} {r b g : Nat} {n : Int} {c : CX} {ag : Bool} {W W' W'' : World} (h : PJs s ext r b g n c ag W W') (hb : Below W'.heap.size W' W'') : PJs s ext r b g n c ag W W'' := ⟨h.rd.stays hb, h.cm.stays hb, h.bx.stays hb, h.tu.trans (Turned.of_below (S := fun _ => False) hb) fun _ _ h => h.elim⟩
theorem PJs.cut {s : ByteArray} {ext : Bool} {r b g t : Nat} {n m : Int} {c : CX} {ag : Bool} {W W' W'' : World} (h : PJs s ext r b g n c ag W W') (hs : W.heap.size ≤ t) (ht : Turned (fun k => k = r ∨ k = t) W' W'') (hr : Rd s ext r m W'') (htb : b ≠ t) (htg : g ≠ t) (hrb : r ≠ b) (hrg : r ≠ g) : PJs s ext r b g m c ag W W'' :=
  ⟨hr, h.cm.turned ht (fun e => e.elim (fun e => hrb e.symm) htb), h.bx.turned ht (fun e => e.elim (fun e => hrg e.symm) htg), h.tu.trans ht fun i hi e => e.elim .inl fun e => by omega⟩
theorem RC.cut {s : ByteArray} {ext : Bool} {r b t : Nat} {n m : Int} {c : CX} {W W' W'' : World} (h : RC s ext r b n c W W') (hs : W.heap.size ≤ t) (ht : Turned (fun k => k = r ∨ k = t) W' W'') (hr : Rd s ext r m W'') (htb : b ≠ t) (hrb : r ≠ b) : RC s ext r b m c W W'' :=
  ⟨hr, h.cm.turned ht (fun e => e.elim (fun e => hrb e.symm) htb), h.tu.trans ht fun i hi e => e.elim .inl fun e => by omega⟩
theorem PJs.again {s : ByteArray} {ext : Bool} {r b g : Nat} {n : Int} {c : CX} {ag : Bool} {W W' : World} (h : PJs s ext r b g n c ag W W') (hrg : r ≠ g) (hbg : b ≠ g) : PJs s ext r b g n c true W (W'.setCell ⟨g, 0, none⟩ (.bool true)) :=
  ⟨(heap_setCell_other W' _ r _ hrg).trans h.rd, h.cm.other hbg _, h.bx.put _, h.tu.put (.inr (.inr rfl)) 0 _⟩
theorem setCells_far {g k : Nat} (hk : k ≠ g) : ∀ (vs : List Value) (o : Nat) (w : World), (w.setCells g o vs).heap[k]? = w.heap[k]?
  | [], _, _ => rfl
  | v :: r, o, w => by
    rw [World.setCells, setCells_far hk r (o + 1), heap_setCell_other w _ k v hk]
theorem PJs.node4 {s : ByteArray} {ext : Bool} {r b g : Nat} {n : Int} {c : CX} {ag : Bool} {W W' : World} (h : PJs s ext r b g n c ag W W') (hrb : r ≠ b) (hbg : b ≠ g) (y : NV) : PJs s ext r b g n { c with fy := y } ag W (W'.setCells b 4 y.cells) :=
  ⟨(setCells_far hrb _ _ _).trans h.rd, h.cm.node4 y, (setCells_far (Ne.symm hbg) _ _ _).trans h.bx, setCells_turned (.inr (.inl rfl)) _ _ _ _ h.tu⟩
theorem PJs.node15 {s : ByteArray} {ext : Bool} {r b g : Nat} {n : Int} {c : CX} {ag : Bool} {W W' : World} (h : PJs s ext r b g n c ag W W') (hrb : r ≠ b) (hbg : b ≠ g) (y : NV) : PJs s ext r b g n { c with ty := y } ag W (W'.setCells b 15 y.cells) :=
  ⟨(setCells_far hrb _ _ _).trans h.rd, h.cm.node15 y, (setCells_far (Ne.symm hbg) _ _ _).trans h.bx, setCells_turned (.inr (.inl rfl)) _ _ _ _ h.tu⟩
theorem RC.node27 {s : ByteArray} {ext : Bool} {r b : Nat} {n : Int} {c : CX} {W W' : World} (h : RC s ext r b n c W W') (hrb : r ≠ b) (y : NV) : RC s ext r b n { c with py := y } W (W'.setCells b 27 y.cells) :=
  ⟨(setCells_far hrb _ _ _).trans h.rd, h.cm.node27 y, setCells_turned (.inr rfl) _ _ _ _ h.tu⟩
/-- What pattern leaves of an address, and of s. -/
def PtA (s : ByteArray) (ext : Bool) (r b g : Nat) (sel : NV → CX) (c : CX) (x : Option (Bool × Option PN × Nat)) (W W' : World) : Prop := ∃ (m : Nat) (c' : CX) (ag : Bool), PJs s ext r b g (m : Int) c' ag W W' ∧ ∀ p, x = some p → m = p.2.2 ∧ ag = p.1 ∧ match p.2.1 with
  | none => c' = c
  | some t => ∃ y, IsP (fun k => k < W.heap.size) W' t y ∧ c' = sel y
def PtS (s : ByteArray) (ext : Bool) (r b : Nat) (c : CX) (x : Option (Bool × Option PN × Nat)) (W W' : World) : Prop := ∃ (m : Nat) (c' : CX), RC s ext r b (m : Int) c' W W' ∧ ∀ p, x = some p → m = p.2.2 ∧ match p.2.1 with
  | none => c' = { c with ag := true }
  | some t => ∃ y, IsP (fun k => k < W.heap.size) W' t y ∧ c' = { c with py := y }
set_option maxRecDepth 100000 in
set_option maxHeartbeats 8000000 in
theorem pattern_from {s : ByteArray} {ext : Bool} {r b g n : Nat} {c : CX} {w : World} (hz : s.size ≤ 2000) (hM : MaxAt w) (hrb : r ≠ b) (h : Rd s ext r (n : Int) w) (hc : Cm c b w) (hg : B1 (.bool false) 4 g w) (hrg : r ≠ g) (hbg : b ≠ g) (d : UInt8) {x : Option (Bool × Option PN × Nat)} (hx : x = patX ext s.data.toList n d) : Calls Try.prog 46 #[.pointer (some ⟨r, 0, none⟩), .pointer (some ⟨b, 4, none⟩), .pointer (some ⟨g, 0, none⟩), .int .u8 (d.toNat : Int)] w fun e w' => e = .returned (.bool x.isSome) ∧ PtA s ext r b g (fun y => { c with fy := y }) c x w w' := by
  have HX := Lib.hid hx
  have HRB := Lib.hid hrb
  have HBL := Lib.hid hc.lt
  have HRL := Lib.hid h.lt
  have HMX := Lib.hid hM
  have HGR := Lib.hid (max_ne_rd hM h)
  have HGB := Lib.hid (max_ne_cm hM hc)
  have HRG := Lib.hid hrg
  have HBG := Lib.hid hbg
  have HGL := Lib.hid (lt_of_some hg)
  have HGG := Lib.hid (max_ne_b1 hM hg)
  have H0 := Lib.hid (show PJs s ext r b g (n : Int) c false w w from ⟨h, hc, hg, Turned.refl _ _⟩)
  have HZ := Lib.hid hz
  clear hx hrb hrg hbg hg h hc hz hM
  go_enter Try.func46, Try.ntmps46
  go_upto_region 2 with fail
  obtain ⟨t, ht⟩ : ∃ t, t = w.heap.size := ⟨_, rfl⟩
  obtain ⟨w1, hw1⟩ : ∃ w1, w1 = w.alloc (.cells #[.string ⟨#[]⟩] 9) := ⟨_, rfl⟩
  have H1 := Lib.hid (show PJs s ext r b g (n : Int) c false w w1 by rw [hw1]; exact H0.out.below (bW w _))
  have HT1 := Lib.hid (show B1 (.string ⟨#[]⟩) 9 t w1 by rw [hw1, ht]; exact heap_alloc_new w _)
  have HTL := Lib.hid (show w.heap.size ≤ t by omega)
  have HBT := Lib.hid (show Below w.heap.size w w1 by rw [hw1]; exact bW w _)
  rw [← hw1, ← ht]
  clear ht hw1
  obtain ⟨o, ho⟩ : ∃ o, o = cutG d false s.data.toList (n : Int) := ⟨_, rfl⟩
  have HO := Lib.hid ho
  have HCU := Lib.hid (cut_m HZ.out H1.out.rd HT1.out (by have := HTL.out; have := HRL.out; omega) d false ho)
  clear ho
  go_wp2_with fail
  go_at_call 54
  with_reducible refine HCU.out.mono ?_
  rintro e w2 ⟨rfl, hcu⟩
  obtain ⟨⟨X, m, hXb, hrd, hXm⟩, htu⟩ := hcu
  have H2 := Lib.hid (show PJs s ext r b g (m : Int) c false w w2 from H1.out.cut HTL.out htu hrd (by have := HTL.out; have := HBL.out; omega) (by have := HTL.out; have := HGL.out; omega) HRB.out HRG.out)
  have HXB := Lib.hid hXb
  have HXM := Lib.hid hXm
  clear hXb hXm hrd htu HCU
  cases o with
  | none =>
    have HX2 := Lib.hid (show x = none by rw [HX.out]; unfold patX; rw [← HO.out])
    go_wp2_with fail
    go_ret
    exact ⟨by rw [HX2.out]; rfl, ⟨m, c, false, H2.out, fun p hp => by rw [HX2.out] at hp; cases hp⟩⟩
  | some p =>
    obtain ⟨p, q⟩ := p
    obtain ⟨rfl, rfl⟩ := HXM.out _ rfl
    simp only at HXB H2
    by_cases hp : p = []
    · subst hp
      have HX2 := Lib.hid (show x = some (true, none, m) by rw [HX.out]; unfold patX; rw [← HO.out]; rfl)
      have k0 := HXB.out.cell
      have e0 : (txt []).toList.isEmpty = true := by rw [ByteArray.toList_eq, txt_data]; rfl
      have kg := H2.out.bx.cell
      have kgf := H2.out.bx.free
      go_wp2_with fail
      go_ret
      refine ⟨by rw [HX2.out]; rfl, ?_⟩
      exact ⟨m, c, true, H2.out.again HRG.out HBG.out, fun p hp => by rw [HX2.out] at hp; injection hp with hp; subst hp; exact ⟨rfl, rfl, rfl⟩⟩
    · have e0 : (txt p).toList.isEmpty = false := full_txt hp
      obtain ⟨y0, hy0⟩ : ∃ y0, y0 = parseP bkOf ext p := ⟨_, rfl⟩
      have HX2 := Lib.hid (show x = y0.map fun tt => (false, some tt, m) by
        rw [HX.out, hy0]
        unfold patX
        rw [← HO.out]
        simp only [hp, if_false]
        cases parseP bkOf ext p <;> rfl)
      have HMX2 := Lib.hid (show MaxAt w2 from HMX.out.keep H2.out.tu (by have := HGR.out; have := HGB.out; have := HGG.out; omega))
      obtain ⟨X, hX⟩ : ∃ X, X = txt p := ⟨_, rfl⟩
      have HPA := Lib.hid (patV (parse_of X ext w2.drew (HMX2.out.below (bD w2 1))))
      rw [hX, txt_data, ← hy0, ← hX] at HPA
      rw [← hX] at HXB e0
      clear hX hp hy0
      have k0 := HXB.out.cell
      have k1 := H2.out.rd.ext
      go_upto_region 8 with fail
      refine wp_region_plan (fun wx => wx.cell? ⟨t, 0, none⟩ = some (.string X) ∧ wx.cell? ⟨r, 2, none⟩ = some (.bool ext)) [.p 0, .p 2, .p 3, .p 4, .l 1, .l 5, .o 6, .p 7, .p 8, .p 9, .p 10, .o 11, .p 12] [11] (by kernel_rfl) (by kernel_rfl) (by kernel_rfl) (by repeat (first | exact pq_body | refine pq_then ?_ | refine pq_jump ?_ | refine pq_block ?_)) (by kernel_rfl) ?_
      iterate 4
        refine plan_p (v := ?_) rfl (by rfl) (fun wx => ?_) ?_
        rotate_left
        · go_simp
          try with_reducible rfl
        simp only [Act.put, List.setIfInBounds_toArray]
      iterate 2
        refine plan_l (v := ?_) ⟨k0, k1⟩ rfl (by rfl) (fun wx hSw => ?_) ?_
        rotate_left
        · obtain ⟨u0, u1⟩ := hSw
          go_simp
          try with_reducible rfl
        simp only [Act.put]
      refine plan_o rfl (fun K hK => ?_)
      go_simp
      refine HPA.out.mono ?_
      rintro e w3 ⟨y, ec, rfl, hec, hb3, hy⟩
      refine hK _ _ ⟨fun _ hx => ⟨(hb3.cell (block_lt_of_cell hx.1)).trans hx.1, (hb3.cell (block_lt_of_cell hx.2)).trans hx.2⟩, ?_⟩
      clear hK K
      try simp only [Act.put, List.setIfInBounds_toArray, List.set_cons_zero, List.set_cons_succ]
      have H3 := Lib.hid (H2.out.below ((bD w2 1).trans hb3))
      have HY := Lib.hid fun tt ht => (hy tt ht).weaken (T := fun k => k < w.heap.size) (fun k hk => Nat.lt_of_lt_of_le hk H2.out.tu.size)
      clear hb3 hy k0 k1 HPA
      iterate 4
        refine plan_p (v := ?_) rfl (by rfl) (fun wx => ?_) ?_
        rotate_left
        · go_simp
          try with_reducible rfl
        simp only [Act.put, List.setIfInBounds_toArray]
      refine plan_o rfl (fun K hK => ?_)
      rw [if_pos (by rfl)]
      refine wp_store_mid 37 (.tmp 29) (.tmp 27) rfl b 4 y.cells.toArray rfl rfl (there_of H3.out.cm 4 (by omega)) (by kernel_rfl) (by kernel_rfl) ?_
      refine hK _ _ ⟨fun h => absurd h (by decide), ?_⟩
      clear hK K
      try simp only [Act.put]
      have H4 := Lib.hid (H3.out.node4 HRB.out HBG.out y)
      have HY4 := Lib.hid fun tt ht => (HY.out tt ht).turned (setCells_turned (S := fun k => k < w.heap.size) HBL.out y.cells 4 w3 w3 (Turned.refl _ _))
      obtain ⟨w4, hw4⟩ : ∃ w4, w4 = w3.setCells b 4 y.cells := ⟨_, rfl⟩
      rw [← hw4] at H4 HY4 ⊢
      clear hw4 HY
      iterate 1
        refine plan_p (v := ?_) rfl (by rfl) (fun wx => ?_) ?_
        rotate_left
        · go_simp
          try with_reducible rfl
        simp only [Act.put]
      refine plan_end ?_
      go_wp2_with fail
      go_ret
      refine ⟨by rw [HX2.out, Option.isSome_map, ← hec]; rfl, ⟨m, { c with fy := y }, false, H4.out, fun p hp => ?_⟩⟩
      rw [HX2.out] at hp
      cases y0 with
      | none => cases hp
      | some tt =>
        injection hp with hp
        subst hp
        exact ⟨rfl, rfl, y, HY4.out tt rfl, rfl⟩
set_option maxRecDepth 100000 in
set_option maxHeartbeats 8000000 in
theorem pattern_to {s : ByteArray} {ext : Bool} {r b g n : Nat} {c : CX} {w : World} (hz : s.size ≤ 2000) (hM : MaxAt w) (hrb : r ≠ b) (h : Rd s ext r (n : Int) w) (hc : Cm c b w) (hg : B1 (.bool false) 4 g w) (hrg : r ≠ g) (hbg : b ≠ g) (d : UInt8) {x : Option (Bool × Option PN × Nat)} (hx : x = patX ext s.data.toList n d) : Calls Try.prog 46 #[.pointer (some ⟨r, 0, none⟩), .pointer (some ⟨b, 15, none⟩), .pointer (some ⟨g, 0, none⟩), .int .u8 (d.toNat : Int)] w fun e w' => e = .returned (.bool x.isSome) ∧ PtA s ext r b g (fun y => { c with ty := y }) c x w w' := by
  have HX := Lib.hid hx
  have HRB := Lib.hid hrb
  have HBL := Lib.hid hc.lt
  have HRL := Lib.hid h.lt
  have HMX := Lib.hid hM
  have HGR := Lib.hid (max_ne_rd hM h)
  have HGB := Lib.hid (max_ne_cm hM hc)
  have HRG := Lib.hid hrg
  have HBG := Lib.hid hbg
  have HGL := Lib.hid (lt_of_some hg)
  have HGG := Lib.hid (max_ne_b1 hM hg)
  have H0 := Lib.hid (show PJs s ext r b g (n : Int) c false w w from ⟨h, hc, hg, Turned.refl _ _⟩)
  have HZ := Lib.hid hz
  clear hx hrb hrg hbg hg h hc hz hM
  go_enter Try.func46, Try.ntmps46
  go_upto_region 2 with fail
  obtain ⟨t, ht⟩ : ∃ t, t = w.heap.size := ⟨_, rfl⟩
  obtain ⟨w1, hw1⟩ : ∃ w1, w1 = w.alloc (.cells #[.string ⟨#[]⟩] 9) := ⟨_, rfl⟩
  have H1 := Lib.hid (show PJs s ext r b g (n : Int) c false w w1 by rw [hw1]; exact H0.out.below (bW w _))
  have HT1 := Lib.hid (show B1 (.string ⟨#[]⟩) 9 t w1 by rw [hw1, ht]; exact heap_alloc_new w _)
  have HTL := Lib.hid (show w.heap.size ≤ t by omega)
  have HBT := Lib.hid (show Below w.heap.size w w1 by rw [hw1]; exact bW w _)
  rw [← hw1, ← ht]
  clear ht hw1
  obtain ⟨o, ho⟩ : ∃ o, o = cutG d false s.data.toList (n : Int) := ⟨_, rfl⟩
  have HO := Lib.hid ho
  have HCU := Lib.hid (cut_m HZ.out H1.out.rd HT1.out (by have := HTL.out; have := HRL.out; omega) d false ho)
  clear ho
  go_wp2_with fail
  go_at_call 54
  with_reducible refine HCU.out.mono ?_
  rintro e w2 ⟨rfl, hcu⟩
  obtain ⟨⟨X, m, hXb, hrd, hXm⟩, htu⟩ := hcu
  have H2 := Lib.hid (show PJs s ext r b g (m : Int) c false w w2 from H1.out.cut HTL.out htu hrd (by have := HTL.out; have := HBL.out; omega) (by have := HTL.out; have := HGL.out; omega) HRB.out HRG.out)
  have HXB := Lib.hid hXb
  have HXM := Lib.hid hXm
  clear hXb hXm hrd htu HCU
  cases o with
  | none =>
    have HX2 := Lib.hid (show x = none by rw [HX.out]; unfold patX; rw [← HO.out])
    go_wp2_with fail
    go_ret
    exact ⟨by rw [HX2.out]; rfl, ⟨m, c, false, H2.out, fun p hp => by rw [HX2.out] at hp; cases hp⟩⟩
  | some p =>
    obtain ⟨p, q⟩ := p
    obtain ⟨rfl, rfl⟩ := HXM.out _ rfl
    simp only at HXB H2
    by_cases hp : p = []
    · subst hp
      have HX2 := Lib.hid (show x = some (true, none, m) by rw [HX.out]; unfold patX; rw [← HO.out]; rfl)
      have k0 := HXB.out.cell
      have e0 : (txt []).toList.isEmpty = true := by rw [ByteArray.toList_eq, txt_data]; rfl
      have kg := H2.out.bx.cell
      have kgf := H2.out.bx.free
      go_wp2_with fail
      go_ret
      refine ⟨by rw [HX2.out]; rfl, ?_⟩
      exact ⟨m, c, true, H2.out.again HRG.out HBG.out, fun p hp => by rw [HX2.out] at hp; injection hp with hp; subst hp; exact ⟨rfl, rfl, rfl⟩⟩
    · have e0 : (txt p).toList.isEmpty = false := full_txt hp
      obtain ⟨y0, hy0⟩ : ∃ y0, y0 = parseP bkOf ext p := ⟨_, rfl⟩
      have HX2 := Lib.hid (show x = y0.map fun tt => (false, some tt, m) by
        rw [HX.out, hy0]
        unfold patX
        rw [← HO.out]
        simp only [hp, if_false]
        cases parseP bkOf ext p <;> rfl)
      have HMX2 := Lib.hid (show MaxAt w2 from HMX.out.keep H2.out.tu (by have := HGR.out; have := HGB.out; have := HGG.out; omega))
      obtain ⟨X, hX⟩ : ∃ X, X = txt p := ⟨_, rfl⟩
      have HPA := Lib.hid (patV (parse_of X ext w2.drew (HMX2.out.below (bD w2 1))))
      rw [hX, txt_data, ← hy0, ← hX] at HPA
      rw [← hX] at HXB e0
      clear hX hp hy0
      have k0 := HXB.out.cell
      have k1 := H2.out.rd.ext
      go_upto_region 8 with fail
      refine wp_region_plan (fun wx => wx.cell? ⟨t, 0, none⟩ = some (.string X) ∧ wx.cell? ⟨r, 2, none⟩ = some (.bool ext)) [.p 0, .p 2, .p 3, .p 4, .l 1, .l 5, .o 6, .p 7, .p 8, .p 9, .p 10, .o 11, .p 12] [11] (by kernel_rfl) (by kernel_rfl) (by kernel_rfl) (by repeat (first | exact pq_body | refine pq_then ?_ | refine pq_jump ?_ | refine pq_block ?_)) (by kernel_rfl) ?_
      iterate 4
        refine plan_p (v := ?_) rfl (by rfl) (fun wx => ?_) ?_
        rotate_left
        · go_simp
          try with_reducible rfl
        simp only [Act.put, List.setIfInBounds_toArray]
      iterate 2
        refine plan_l (v := ?_) ⟨k0, k1⟩ rfl (by rfl) (fun wx hSw => ?_) ?_
        rotate_left
        · obtain ⟨u0, u1⟩ := hSw
          go_simp
          try with_reducible rfl
        simp only [Act.put]
      refine plan_o rfl (fun K hK => ?_)
      go_simp
      refine HPA.out.mono ?_
      rintro e w3 ⟨y, ec, rfl, hec, hb3, hy⟩
      refine hK _ _ ⟨fun _ hx => ⟨(hb3.cell (block_lt_of_cell hx.1)).trans hx.1, (hb3.cell (block_lt_of_cell hx.2)).trans hx.2⟩, ?_⟩
      clear hK K
      try simp only [Act.put, List.setIfInBounds_toArray, List.set_cons_zero, List.set_cons_succ]
      have H3 := Lib.hid (H2.out.below ((bD w2 1).trans hb3))
      have HY := Lib.hid fun tt ht => (hy tt ht).weaken (T := fun k => k < w.heap.size) (fun k hk => Nat.lt_of_lt_of_le hk H2.out.tu.size)
      clear hb3 hy k0 k1 HPA
      iterate 4
        refine plan_p (v := ?_) rfl (by rfl) (fun wx => ?_) ?_
        rotate_left
        · go_simp
          try with_reducible rfl
        simp only [Act.put, List.setIfInBounds_toArray]
      refine plan_o rfl (fun K hK => ?_)
      rw [if_pos (by rfl)]
      refine wp_store_mid 37 (.tmp 29) (.tmp 27) rfl b 15 y.cells.toArray rfl rfl (there_of H3.out.cm 15 (by omega)) (by kernel_rfl) (by kernel_rfl) ?_
      refine hK _ _ ⟨fun h => absurd h (by decide), ?_⟩
      clear hK K
      try simp only [Act.put]
      have H4 := Lib.hid (H3.out.node15 HRB.out HBG.out y)
      have HY4 := Lib.hid fun tt ht => (HY.out tt ht).turned (setCells_turned (S := fun k => k < w.heap.size) HBL.out y.cells 15 w3 w3 (Turned.refl _ _))
      obtain ⟨w4, hw4⟩ : ∃ w4, w4 = w3.setCells b 15 y.cells := ⟨_, rfl⟩
      rw [← hw4] at H4 HY4 ⊢
      clear hw4 HY
      iterate 1
        refine plan_p (v := ?_) rfl (by rfl) (fun wx => ?_) ?_
        rotate_left
        · go_simp
          try with_reducible rfl
        simp only [Act.put]
      refine plan_end ?_
      go_wp2_with fail
      go_ret
      refine ⟨by rw [HX2.out, Option.isSome_map, ← hec]; rfl, ⟨m, { c with ty := y }, false, H4.out, fun p hp => ?_⟩⟩
      rw [HX2.out] at hp
      cases y0 with
      | none => cases hp
      | some tt =>
        injection hp with hp
        subst hp
        exact ⟨rfl, rfl, y, HY4.out tt rfl, rfl⟩
set_option maxRecDepth 100000 in
set_option maxHeartbeats 8000000 in
theorem pattern_s {s : ByteArray} {ext : Bool} {r b n : Nat} {c : CX} {w : World} (hz : s.size ≤ 2000) (hM : MaxAt w) (hrb : r ≠ b) (h : Rd s ext r (n : Int) w) (hc : Cm c b w) (hag : c.ag = false) (d : UInt8) {x : Option (Bool × Option PN × Nat)} (hx : x = patX ext s.data.toList n d) : Calls Try.prog 46 #[.pointer (some ⟨r, 0, none⟩), .pointer (some ⟨b, 27, none⟩), .pointer (some ⟨b, 36, none⟩), .int .u8 (d.toNat : Int)] w fun e w' => e = .returned (.bool x.isSome) ∧ PtS s ext r b c x w w' := by
  have HX := Lib.hid hx
  have HRB := Lib.hid hrb
  have HBL := Lib.hid hc.lt
  have HRL := Lib.hid h.lt
  have HMX := Lib.hid hM
  have HGR := Lib.hid (max_ne_rd hM h)
  have HGB := Lib.hid (max_ne_cm hM hc)
  have HAG := Lib.hid hag
  have H0 := Lib.hid (show RC s ext r b (n : Int) c w w from RC.start h hc)
  have HZ := Lib.hid hz
  clear hx hrb hag h hc hz hM
  go_enter Try.func46, Try.ntmps46
  go_upto_region 2 with fail
  obtain ⟨t, ht⟩ : ∃ t, t = w.heap.size := ⟨_, rfl⟩
  obtain ⟨w1, hw1⟩ : ∃ w1, w1 = w.alloc (.cells #[.string ⟨#[]⟩] 9) := ⟨_, rfl⟩
  have H1 := Lib.hid (show RC s ext r b (n : Int) c w w1 by rw [hw1]; exact H0.out.below (bW w _))
  have HT1 := Lib.hid (show B1 (.string ⟨#[]⟩) 9 t w1 by rw [hw1, ht]; exact heap_alloc_new w _)
  have HTL := Lib.hid (show w.heap.size ≤ t by omega)
  have HBT := Lib.hid (show Below w.heap.size w w1 by rw [hw1]; exact bW w _)
  rw [← hw1, ← ht]
  clear ht hw1
  obtain ⟨o, ho⟩ : ∃ o, o = cutG d false s.data.toList (n : Int) := ⟨_, rfl⟩
  have HO := Lib.hid ho
  have HCU := Lib.hid (cut_m HZ.out H1.out.rd HT1.out (by have := HTL.out; have := HRL.out; omega) d false ho)
  clear ho
  go_wp2_with fail
  go_at_call 54
  with_reducible refine HCU.out.mono ?_
  rintro e w2 ⟨rfl, hcu⟩
  obtain ⟨⟨X, m, hXb, hrd, hXm⟩, htu⟩ := hcu
  have H2 := Lib.hid (show RC s ext r b (m : Int) c w w2 from H1.out.cut HTL.out htu hrd (by have := HTL.out; have := HBL.out; omega) HRB.out)
  have HXB := Lib.hid hXb
  have HXM := Lib.hid hXm
  clear hXb hXm hrd htu HCU
  cases o with
  | none =>
    have HX2 := Lib.hid (show x = none by rw [HX.out]; unfold patX; rw [← HO.out])
    go_wp2_with fail
    go_ret
    exact ⟨by rw [HX2.out]; rfl, ⟨m, c, H2.out, fun p hp => by rw [HX2.out] at hp; cases hp⟩⟩
  | some p =>
    obtain ⟨p, q⟩ := p
    obtain ⟨rfl, rfl⟩ := HXM.out _ rfl
    simp only at HXB H2
    by_cases hp : p = []
    · subst hp
      have HX2 := Lib.hid (show x = some (true, none, m) by rw [HX.out]; unfold patX; rw [← HO.out]; rfl)
      have k0 := HXB.out.cell
      have e0 : (txt []).toList.isEmpty = true := by rw [ByteArray.toList_eq, txt_data]; rfl
      have kg := H2.out.cm.cell 36 _ rfl
      have kgf := H2.out.cm.free 36
      go_wp2_with fail
      go_ret
      refine ⟨by rw [HX2.out]; rfl, ?_⟩
      exact ⟨m, { c with ag := true }, H2.out.set HRB.out 36 _ _ (by kernel_rfl), fun p hp => by rw [HX2.out] at hp; injection hp with hp; subst hp; exact ⟨rfl, rfl⟩⟩
    · have e0 : (txt p).toList.isEmpty = false := full_txt hp
      obtain ⟨y0, hy0⟩ : ∃ y0, y0 = parseP bkOf ext p := ⟨_, rfl⟩
      have HX2 := Lib.hid (show x = y0.map fun tt => (false, some tt, m) by
        rw [HX.out, hy0]
        unfold patX
        rw [← HO.out]
        simp only [hp, if_false]
        cases parseP bkOf ext p <;> rfl)
      have HMX2 := Lib.hid (show MaxAt w2 from HMX.out.keep H2.out.tu (by have := HGR.out; have := HGB.out; omega))
      obtain ⟨X, hX⟩ : ∃ X, X = txt p := ⟨_, rfl⟩
      have HPA := Lib.hid (patV (parse_of X ext w2.drew (HMX2.out.below (bD w2 1))))
      rw [hX, txt_data, ← hy0, ← hX] at HPA
      rw [← hX] at HXB e0
      clear hX hp hy0
      have k0 := HXB.out.cell
      have k1 := H2.out.rd.ext
      go_upto_region 8 with fail
      refine wp_region_plan (fun wx => wx.cell? ⟨t, 0, none⟩ = some (.string X) ∧ wx.cell? ⟨r, 2, none⟩ = some (.bool ext)) [.p 0, .p 2, .p 3, .p 4, .l 1, .l 5, .o 6, .p 7, .p 8, .p 9, .p 10, .o 11, .p 12] [11] (by kernel_rfl) (by kernel_rfl) (by kernel_rfl) (by repeat (first | exact pq_body | refine pq_then ?_ | refine pq_jump ?_ | refine pq_block ?_)) (by kernel_rfl) ?_
      iterate 4
        refine plan_p (v := ?_) rfl (by rfl) (fun wx => ?_) ?_
        rotate_left
        · go_simp
          try with_reducible rfl
        simp only [Act.put, List.setIfInBounds_toArray]
      iterate 2
        refine plan_l (v := ?_) ⟨k0, k1⟩ rfl (by rfl) (fun wx hSw => ?_) ?_
        rotate_left
        · obtain ⟨u0, u1⟩ := hSw
          go_simp
          try with_reducible rfl
        simp only [Act.put]
      refine plan_o rfl (fun K hK => ?_)
      go_simp
      refine HPA.out.mono ?_
      rintro e w3 ⟨y, ec, rfl, hec, hb3, hy⟩
      refine hK _ _ ⟨fun _ hx => ⟨(hb3.cell (block_lt_of_cell hx.1)).trans hx.1, (hb3.cell (block_lt_of_cell hx.2)).trans hx.2⟩, ?_⟩
      clear hK K
      try simp only [Act.put, List.setIfInBounds_toArray, List.set_cons_zero, List.set_cons_succ]
      have H3 := Lib.hid (H2.out.below ((bD w2 1).trans hb3))
      have HY := Lib.hid fun tt ht => (hy tt ht).weaken (T := fun k => k < w.heap.size) (fun k hk => Nat.lt_of_lt_of_le hk H2.out.tu.size)
      clear hb3 hy k0 k1 HPA
      iterate 4
        refine plan_p (v := ?_) rfl (by rfl) (fun wx => ?_) ?_
        rotate_left
        · go_simp
          try with_reducible rfl
        simp only [Act.put, List.setIfInBounds_toArray]
      refine plan_o rfl (fun K hK => ?_)
      rw [if_pos (by rfl)]
      refine wp_store_mid 37 (.tmp 29) (.tmp 27) rfl b 27 y.cells.toArray rfl rfl (there_of H3.out.cm 27 (by omega)) (by kernel_rfl) (by kernel_rfl) ?_
      refine hK _ _ ⟨fun h => absurd h (by decide), ?_⟩
      clear hK K
      try simp only [Act.put]
      have H4 := Lib.hid (H3.out.node27 HRB.out y)
      have HY4 := Lib.hid fun tt ht => (HY.out tt ht).turned (setCells_turned (S := fun k => k < w.heap.size) HBL.out y.cells 27 w3 w3 (Turned.refl _ _))
      obtain ⟨w4, hw4⟩ : ∃ w4, w4 = w3.setCells b 27 y.cells := ⟨_, rfl⟩
      rw [← hw4] at H4 HY4 ⊢
      clear hw4 HY
      iterate 1
        refine plan_p (v := ?_) rfl (by rfl) (fun wx => ?_) ?_
        rotate_left
        · go_simp
          try with_reducible rfl
        simp only [Act.put]
      refine plan_end ?_
      go_wp2_with fail
      go_ret
      refine ⟨by rw [HX2.out, Option.isSome_map, ← hec]; rfl, ⟨m, { c with py := y }, H4.out, fun p hp => ?_⟩⟩
      rw [HX2.out] at hp
      cases y0 with
      | none => cases hp
      | some tt =>
        injection hp with hp
        subst hp
        exact ⟨rfl, y, HY4.out tt rfl, rfl⟩
end Go.Proofs.Ytncbmdbfdjhkeaa
