/-
  TreeBack, of any package of trees. Conditions: TreeApi and RopeFew hold of the packages; the acts are as the arguments' reader reads them.
-/
import Derived.Test.YtcjbhjbjkfgphaaTorder
namespace Go.Proofs.Ytcjbhjbjkfgphaa
open Go.RowKit Go.Deep Go.Maps Go.Sort

section
variable {R : World → Option Addr → List UInt8 → Prop} {T : World → Option Addr → List FileM → Prop}

theorem drop_put : ∀ (fs : List FileM) (f : FileM), dropF (putF fs f) f.path = dropF fs f.path
  | [], f => by simp [putF, dropF]
  | g :: r, f => by
    unfold putF
    split
    · simp [dropF]
    · split
      · rename_i h
        simp [dropF, ← h]
      · have ih := drop_put r f
        unfold dropF at ih ⊢
        rw [List.filter_cons, List.filter_cons, ih]
theorem put_mem : ∀ (fs : List FileM) (f : FileM), f ∈ putF fs f
  | [], f => by simp [putF]
  | g :: r, f => by
    unfold putF
    split
    · simp
    · split
      · simp
      · exact List.mem_cons_of_mem _ (put_mem r f)
theorem get_put : ∀ (fs : List FileM) (f : FileM), getF (putF fs f) f.path = (f.text, f.ver, true)
  | [], f => by simp [putF, getF]
  | g :: r, f => by
    unfold putF
    split
    · simp [getF]
    · split
      · simp [getF]
      · rename_i h
        have ih := get_put r f
        unfold getF at ih ⊢
        rw [List.find?_cons_of_neg (by simpa using fun e => h e.symm)]
        exact ih
theorem find_put (fs : List FileM) (f : FileM) : findF (putF fs f) f.path ≠ none := fun h => findF_none.1 h f (put_mem fs f) rfl
theorem find_drop (fs : List FileM) (p : ByteArray) : findF (dropF fs p) p = none := findF_none.2 fun f hf => by
  have := (List.mem_filter.1 hf).2
  simpa using this

def ActIn (W : World) (b : Nat) (o : ActM) : Prop := W.cell? ⟨b, 2, none⟩ = some (.int .i64 o.ver) ∧ W.cell? ⟨b, 3, none⟩ = some (.string o.path) ∧ W.cell? ⟨b, 4, none⟩ = some (.string o.s)
theorem ActIn.below {W W' : World} {b : Nat} {o : ActM} (h : ActIn W b o) (hb : Below W.heap.size W W') : ActIn W' b o := by
  obtain ⟨h2, h3, h4⟩ := h
  exact ⟨by rw [hb.cell (World.block_lt_of_cell? W _ h2)]; exact h2, by rw [hb.cell (World.block_lt_of_cell? W _ h3)]; exact h3, by rw [hb.cell (World.block_lt_of_cell? W _ h4)]; exact h4⟩
theorem ActIn.new (w : World) (o : ActM) (t : TypeId) : ActIn (w.alloc (.cells #[.int .i64 o.kind, .int .i64 o.i, .int .i64 o.ver, .string o.path, .string o.s] t)) w.heap.size o := ⟨by simp, by simp, by simp⟩
theorem acts_below {w w' : World} {S : Option Addr} {os : List ActM} (h : ActsAt w S os) (hb : Below w.heap.size w w') : ActsAt w' S os := fun i o hi => by
  obtain ⟨hg, g, off, e, hr⟩ := h i o hi
  exact ⟨hg, g, off, e, fun j v hj => by rw [hb.cell (World.block_lt_of_cell? w _ (hr j v hj))]; exact hr j v hj⟩
set_option maxRecDepth 100000 in
set_option maxHeartbeats 8000000 in
theorem back_any (F : RopeFew R) (K : TreeApi R T) (SA : Option Addr) (os : List ActM) (scap : Nat) (o : ActM) (w : World) (hos : ActsAt w SA os) (hlen : os.length ≤ maxLen) (ho : o.good) :
    Calls Try.prog 5 #[.slice SA os.length scap, .agg #[.int .i64 o.kind, .int .i64 o.i, .int .i64 o.ver, .string o.path, .string o.s]] w (TrueIs w) := by
  have HAL := Lib.hid fun (W : World) => alive_any F K W
  have HBU := Lib.hid fun (W : World) (hb : Below w.heap.size w W) => built_any F K SA os scap W (acts_below hos hb) hlen
  have HGO := Lib.hid ho
  clear hos hlen ho
  go_enter Try.func5, Try.ntmps5
  go_upto_region 1 with fail
  have hin := ActIn.new w o 27
  have hb0 := (Below.refl w.heap.size w).alloc (Nat.le_refl _) (.cells #[.int .i64 o.kind, .int .i64 o.i, .int .i64 o.ver, .string o.path, .string o.s] 27)
  obtain ⟨w0, e0⟩ : ∃ w0, w0 = w.alloc (.cells #[.int .i64 o.kind, .int .i64 o.i, .int .i64 o.ver, .string o.path, .string o.s] 27) := ⟨_, rfl⟩
  rw [← e0] at hin hb0 ⊢
  have HIN := Lib.hid hin
  have HB0 := Lib.hid hb0
  obtain ⟨c2, c3, c4⟩ := hin
  clear e0 hb0
  by_cases h1 : 100 < o.s.size
  · have g1 : decide (100 < (o.s.size : Int)) = true := decide_eq_true (by omega)
    have g1n : decide (100 < o.s.size) = true := decide_eq_true h1
    clear h1
    go_wp2_with fail
    go_at_call 7
    (with_reducible refine (HAL.out _).mono ?_)
    rintro e w1 ⟨rfl, hb1⟩
    go_wp2_with fail
    go_ret
    exact ⟨rfl, HB0.out.trans (hb1.mono HB0.out.size)⟩
  · have g1 : decide (100 < (o.s.size : Int)) = false := decide_eq_false (by omega)
    have g1n : decide (100 < o.s.size) = false := decide_eq_false h1
    have HS := Lib.hid (Nat.le_of_not_lt h1)
    clear h1
    by_cases h2 : 100 < o.path.size
    · have g2 : decide (100 < (o.path.size : Int)) = true := decide_eq_true (by omega)
      have g2n : decide (100 < o.path.size) = true := decide_eq_true h2
      clear h2
      go_wp2_with fail
      go_at_call 7
      (with_reducible refine (HAL.out _).mono ?_)
      rintro e w1 ⟨rfl, hb1⟩
      go_wp2_with fail
      go_ret
      exact ⟨rfl, HB0.out.trans (hb1.mono HB0.out.size)⟩
    · have g2 : decide (100 < (o.path.size : Int)) = false := decide_eq_false (by omega)
      have g2n : decide (100 < o.path.size) = false := decide_eq_false h2
      have HP := Lib.hid (Nat.le_of_not_lt h2)
      have HRI := Lib.hid fun (W : World) => K.right_is o.path W (by omega)
      clear h2
      obtain ⟨rr, err⟩ : ∃ rr, rr = decide (RightP o.path) := ⟨_, rfl⟩
      have HRR := Lib.hid err
      rw [← err] at HRI
      clear err
      go_wp2_with fail
      go_at_call 14
      (with_reducible refine (HRI.out _).mono ?_)
      rintro e w1 ⟨rfl, hb1⟩
      have HB1 := Lib.hid (HB0.out.trans (hb1.mono HB0.out.size))
      have hin1 := HIN.out.below hb1
      have HIN1 := Lib.hid hin1
      obtain ⟨d2, d3, d4⟩ := hin1
      clear hb1 c2 c3 c4
      cases rr with
      | false =>
        go_wp2_with fail
        go_at_call 7
        (with_reducible refine (HAL.out _).mono ?_)
        rintro e w2 ⟨rfl, hb2⟩
        go_wp2_with fail
        go_ret
        exact ⟨rfl, HB1.out.trans (hb2.mono HB1.out.size)⟩
      | true =>
        have HRP := Lib.hid (of_decide_eq_true HRR.out.symm)
        have HBV := Lib.hid (HBU.out w1 HB1.out)
        clear d2 d3 d4
        go_wp2_with fail
        go_at_call 17
        (with_reducible refine HBV.out.mono ?_)
        rintro e w2 ⟨p, fs, rfl, hT2, h60, hb2⟩
        have H60 := Lib.hid h60
        have HT2 := Lib.hid hT2
        have HIN2 := Lib.hid (HIN1.out.below hb2)
        have HB2 := Lib.hid (HB1.out.trans (hb2.mono HB1.out.size))
        have HFI := Lib.hid (K.files_is hT2)
        clear hT2 h60 hb2
        go_wp2_with fail
        go_at_call 18
        (with_reducible refine HFI.out.mono ?_)
        rintro e w3 ⟨fv, rfl, hfv, hb3⟩
        obtain ⟨LA, lc, rfl, hfat⟩ := hfv.form
        have HFA3 := Lib.hid hfat
        have HT3 := Lib.hid (K.below HT2.out hb3)
        have hin3 := HIN2.out.below hb3
        have HIN3 := Lib.hid hin3
        have HB3 := Lib.hid (HB2.out.trans (hb3.mono HB2.out.size))
        have HOF := Lib.hid (F.of_ok o.s.data.toList o.s w3 (txt_of _).symm (by have := HS.out; simp; omega))
        obtain ⟨c2, c3, c4⟩ := hin3
        clear hfv hfat hb3
        go_wp2_with fail
        go_at_call 9
        (with_reducible refine HOF.out.mono ?_)
        rintro e w4 ⟨r, rfl, hr4, hb4⟩
        have hT4 := K.below HT3.out hb4
        have hin4 := HIN3.out.below hb4
        have HSE := Lib.hid (K.set_ok o.path o.ver o.s hT4 hr4 (txt_of _).symm HRP.out (by have := dropF_length_le fs o.path; have := H60.out; omega) HGO.out.2.2.1)
        have HFA4 := Lib.hid (HFA3.out.below hb4)
        have HT4 := Lib.hid hT4
        have HIN4 := Lib.hid hin4
        have HB4 := Lib.hid (HB3.out.trans (hb4.mono HB3.out.size))
        obtain ⟨d2, d3, d4⟩ := hin4
        clear hr4 hb4 hT4 c2 c3 c4
        go_wp2_with fail
        go_at_call 10
        (with_reducible refine HSE.out.mono ?_)
        rintro e w5 ⟨x, rfl, hx5, hb5⟩
        have HX5 := Lib.hid hx5
        have HFA5 := Lib.hid (HFA4.out.below hb5)
        have HT5 := Lib.hid (K.below HT4.out hb5)
        have hin5 := HIN4.out.below hb5
        have HIN5 := Lib.hid hin5
        have HB5 := Lib.hid (HB4.out.trans (hb5.mono HB4.out.size))
        have HDR := Lib.hid (K.drop_ok o.path hx5 (find_put fs ⟨o.path, o.ver, o.s⟩))
        obtain ⟨c2, c3, c4⟩ := hin5
        clear hx5 hb5 d2 d3 d4
        go_wp2_with fail
        go_at_call 12
        (with_reducible refine HDR.out.mono ?_)
        rintro e w6 ⟨y, rfl, hy6, hb6⟩
        rw [drop_put fs ⟨o.path, o.ver, o.s⟩] at hy6
        dsimp only at hy6
        have HY6 := Lib.hid hy6
        have HX6 := Lib.hid (K.below HX5.out hb6)
        have HFA6 := Lib.hid (HFA5.out.below hb6)
        have HT6 := Lib.hid (K.below HT5.out hb6)
        have hin6 := HIN5.out.below hb6
        have HIN6 := Lib.hid hin6
        have HB6 := Lib.hid (HB5.out.trans (hb6.mono HB5.out.size))
        have HDN := Lib.hid (K.drop_no o.path hy6 (by have := HP.out; omega) (find_drop fs o.path))
        obtain ⟨d2, d3, d4⟩ := hin6
        clear hy6 hb6 c2 c3 c4
        go_wp2_with fail
        go_at_call 12
        (with_reducible refine HDN.out.mono ?_)
        rintro e w7 ⟨z, rfl, hb7⟩
        have hy7 := K.below HY6.out hb7
        have HY7 := Lib.hid hy7
        have HX7 := Lib.hid (K.below HX6.out hb7)
        have HFA7 := Lib.hid (HFA6.out.below hb7)
        have HT7 := Lib.hid (K.below HT6.out hb7)
        have HIN7 := Lib.hid (HIN6.out.below hb7)
        have HB7 := Lib.hid (HB6.out.trans (hb7.mono HB6.out.size))
        have HFY := Lib.hid (K.files_is hy7)
        clear hy7 hb7 d2 d3 d4
        go_wp2_with fail
        go_at_call 18
        (with_reducible refine HFY.out.mono ?_)
        rintro e w8 ⟨fv, rfl, hfv, hb8⟩
        obtain ⟨YA, yc, rfl, hyat⟩ := hfv.form
        have HYA8 := Lib.hid hyat
        have HX8 := Lib.hid (K.below HX7.out hb8)
        have HFA8 := Lib.hid (HFA7.out.below hb8)
        have HT8 := Lib.hid (K.below HT7.out hb8)
        have HIN8 := Lib.hid (HIN7.out.below hb8)
        have HB8 := Lib.hid (HB7.out.trans (hb8.mono HB7.out.size))
        clear hfv hyat hb8
        obtain ⟨n, en⟩ : ∃ n, n = fs.length := ⟨_, rfl⟩
        obtain ⟨k, ek⟩ : ∃ k, k = (dropF fs o.path).length := ⟨_, rfl⟩
        rw [← en, ← ek]
        have hn60 : n ≤ 60 := by rw [en]; exact H60.out
        have hk60 : k ≤ 60 := by rw [ek]; exact Nat.le_trans (dropF_length_le fs o.path) H60.out
        have EN := Lib.hid en
        have EK := Lib.hid ek
        clear en ek
        go_wp2_with fail
        go_loopw [16, 17] (fun nv iv wr => ∃ i c : Nat, iv = .int .i64 (i : Int) ∧ nv = .int .i64 (c : Int) ∧ i ≤ n ∧ Hid (c = (dropF (fs.take i) o.path).length) ∧ Below w8.heap.size w8 wr) (fun _ iv _ => n - (intOf iv).toNat)
        case atStart => exact ⟨0, 0, rfl, rfl, Nat.zero_le _, Lib.hid (by simp [dropF]), Below.refl _ _⟩
        case round =>
          obtain ⟨i, c, rfl, rfl, hi, HC, hbr⟩ := hrel
          have HBR := Lib.hid hbr
          by_cases hlt : i < n
          · obtain ⟨f, hf⟩ : ∃ f, fs[i]? = some f := ⟨fs[i]'(by have := EN.out; omega), List.getElem?_eq_getElem _⟩
            obtain ⟨g, o', eLA, hr⟩ := HFA8.out i f hf
            subst eLA
            have kc : ∀ j u, f.cells[j]? = some u → wr.cell? ⟨g, o' + i * 3 + j, none⟩ = some u := fun j u hu => (hbr.cell (p := ⟨g, o' + i * 3 + j, none⟩) (World.block_lt_of_cell? w8 _ (hr j u hu))).trans (hr j u hu)
            have k0 : wr.cell? ⟨g, o' + i * 3, none⟩ = some (.string f.path) := kc 0 _ rfl
            have k1 : wr.cell? ⟨g, o' + i * 3 + 1, none⟩ = some (.int .i64 f.ver) := kc 1 _ rfl
            have k2 : wr.cell? ⟨g, o' + i * 3 + 2, none⟩ = some (.string f.text) := kc 2 _ rfl
            have hin := HIN8.out.below hbr
            obtain ⟨c2, c3, c4⟩ := hin
            have hiI : (i : Int) < (n : Int) := by omega
            have hi0 : (0 : Int) ≤ (i : Int) := by omega
            have hwi : wrap64 ((i : Int) + 1) = (i : Int) + 1 := IntWalk.wrap64_in _ (by omega)
            have HI1 := Lib.hid (show i + 1 ≤ n from hlt)
            have HI2 := Lib.hid (show n - (i + 1) < n - i by omega)
            have HDT := Lib.hid (dropF_take_succ (p := o.path) hf)
            have hbq : ∀ m, Below wr.heap.size wr (wr.drewN m) := fun m => ⟨rfl, rfl, rfl, Nat.le_refl _, fun _ _ => rfl⟩
            have HBQ := Lib.hid fun m => HBR.out.trans ((hbq m).mono HBR.out.size)
            by_cases he : f.path = o.path
            · have HE := Lib.hid he
              have z0 : (f.path.toList == o.path.toList) = true := by rw [he]; simp
              clear hf hr kc hi hlt hbr hbq he
              go_upto_region 18 with fail
              go_quiet (fail)
              go_wp2_with fail
              exact ⟨⟨i + 1, c, rfl, rfl, HI1.out, Lib.hid (by rw [HDT.out, if_pos HE.out, List.append_nil]; exact HC.out), HBQ.out _⟩, HI2.out⟩
            · have HE := Lib.hid he
              have z0 : (f.path.toList == o.path.toList) = false := by
                rw [beq_eq_false_iff_ne]
                exact fun e => he (toList_inj e)
              have hnx : (dropF fs o.path)[c]? = some f := by rw [HC.out]; exact filter_next (q := fun f => decide (f.path ≠ o.path)) hf (by simpa using he)
              have hck : c < k := by rw [EK.out]; exact (List.getElem?_eq_some_iff.1 hnx).1
              obtain ⟨g2, o2, eYA, hr2⟩ := HYA8.out c f hnx
              subst eYA
              have kd : ∀ j u, f.cells[j]? = some u → wr.cell? ⟨g2, o2 + c * 3 + j, none⟩ = some u := fun j u hu => (hbr.cell (p := ⟨g2, o2 + c * 3 + j, none⟩) (World.block_lt_of_cell? w8 _ (hr2 j u hu))).trans (hr2 j u hu)
              have l0 : wr.cell? ⟨g2, o2 + c * 3, none⟩ = some (.string f.path) := kd 0 _ rfl
              have l1 : wr.cell? ⟨g2, o2 + c * 3 + 1, none⟩ = some (.int .i64 f.ver) := kd 1 _ rfl
              have l2 : wr.cell? ⟨g2, o2 + c * 3 + 2, none⟩ = some (.string f.text) := kd 2 _ rfl
              have z1 : (f.path.toList == f.path.toList) = true := by simp
              have z2 : (f.text.toList == f.text.toList) = true := by simp
              have z3 : (f.ver == f.ver) = true := by simp
              have q1 : decide ((k : Int) ≤ (c : Int)) = false := decide_eq_false (by omega)
              have q2 : decide (k ≤ c) = false := decide_eq_false (by omega)
              have q3 : (c : Int) < (k : Int) := by omega
              have q4 : (0 : Int) ≤ (c : Int) := by omega
              have hwc : wrap64 ((c : Int) + 1) = (c : Int) + 1 := IntWalk.wrap64_in _ (by omega)
              clear hf hr kc hi hlt hbr hbq he hr2 kd hnx hck
              go_upto_region 18 with fail
              go_quiet (fail)
              go_upto_region 19 with fail
              go_quiet (fail)
              go_wp2_with fail
              exact ⟨⟨i + 1, c + 1, rfl, rfl, HI1.out, Lib.hid (by rw [HDT.out, if_neg HE.out, List.length_append, ← HC.out]; rfl), HBQ.out _⟩, HI2.out⟩
          · have hie : i = n := by omega
            subst hie
            have hck : c = k := by rw [HC.out, EN.out, List.take_length, ← EK.out]
            subst hck
            have hx9 := K.get_is o.path (K.below HX8.out hbr) (by have := HP.out; omega)
            rw [get_put fs ⟨o.path, o.ver, o.s⟩] at hx9
            have HGX := Lib.hid hx9
            have hin := HIN8.out.below hbr
            have HIN9 := Lib.hid hin
            have HT9 := Lib.hid (K.below HT8.out hbr)
            have HFA9 := Lib.hid (HFA8.out.below hbr)
            have HB9 := Lib.hid (HB8.out.trans (hbr.mono HB8.out.size))
            have gi : decide ((i : Int) < (i : Int)) = false := by simp
            obtain ⟨c2, c3, c4⟩ := hin
            clear hx9 hi hlt hbr HX8 HX7 HX6 HX5 HT8 HT7 HT6 HT5 HT4 HT3 HT2 HFA8 HFA7 HFA6 HFA5 HFA4 HFA3 HIN8 HIN7 HIN6 HIN5 HIN4 HIN3 HIN2 HIN1 HIN
            go_wp2_with fail
            go_at_call 21
            (with_reducible refine HGX.out.mono ?_)
            rintro e w10 ⟨q, l, rfl, hq10, hl10, hb10⟩
            have HLX := Lib.hid hl10
            have HQ10 := Lib.hid hq10
            have HIN10 := Lib.hid (HIN9.out.below hb10)
            have HFA10 := Lib.hid (HFA9.out.below hb10)
            have HB10 := Lib.hid (HB9.out.trans (hb10.mono HB9.out.size))
            have HFI10 := Lib.hid (K.files_is (K.below HT9.out hb10))
            dsimp only at hl10 ⊢
            clear hl10 hq10 hb10 c2 c3 c4
            go_wp2_with fail
            go_at_call 18
            (with_reducible refine HFI10.out.mono ?_)
            rintro e w11 ⟨fv, rfl, hfv, hb11⟩
            obtain ⟨ZA, zc, rfl, hzat⟩ := hfv.form
            have HSM := Lib.hid (ref_same fs ZA LA i zc lc w11 hzat (HFA10.out.below hb11) EN.out (by have := H60.out; omega))
            have HQ11 := Lib.hid (F.below HQ10.out hb11)
            have HIN11 := Lib.hid (HIN10.out.below hb11)
            have HB11 := Lib.hid (HB10.out.trans (hb11.mono HB10.out.size))
            rw [← EN.out]
            clear hfv hzat hb11
            go_wp2_with fail
            go_at_call 22
            (with_reducible refine HSM.out.mono ?_)
            rintro e w12 ⟨rfl, hb12⟩
            have HQ12 := Lib.hid (F.below HQ11.out hb12)
            have hin := HIN11.out.below hb12
            have HB12 := Lib.hid (HB11.out.trans (hb12.mono HB11.out.size))
            obtain ⟨c2, c3, c4⟩ := hin
            have k2 := cell_regrown c2
            have k4 := cell_regrown c4
            have CA := Lib.hid (show ∀ d os, Calls Try.prog 7 #[] (grow (redrawn w12 d) os) fun e w'' => e = .returned (.bool true) ∧ ∃ p : Regrown, w'' = grow (redrawn w12 p.d) p.os from fun d os => Calls.regrown_of (HAL.out _))
            have CT := Lib.hid (show ∀ d os, Calls Try.prog 23 #[.pointer q] (grow (redrawn w12 d) os) fun e w'' => e = .returned (.string o.s) ∧ ∃ p : Regrown, w'' = grow (redrawn w12 p.d) p.os from fun d os => Calls.regrown_of (by
              have h := F.text_is (F.below HQ12.out (below_regrown w12 d os))
              rw [← HLX.out] at h
              exact h))
            have z2 : (o.s.toList == o.s.toList) = true := by simp
            have z3 : (o.ver == o.ver) = true := by simp
            have z4 : ((i : Int) == (i : Int)) = true := by simp
            clear hb12 HQ10 HQ11 HFA9 HFA10 HT9 HIN9 HIN10 HIN11
            go_upto_region 24 with fail
            refine wp_region_quiet_below (by kernel_rfl) (by kernel_rfl) ?_
            repeat (go_big_quiet_step (first | exact CA.out _ _ | exact CT.out _ _))
            refine wpQuiet_nil ?_
            rintro w13 ⟨⟨dq, osq⟩, rfl⟩
            have hb13 := below_regrown w12 dq osq
            generalize grow (redrawn w12 dq) osq = w13 at hb13 ⊢
            clear k2 k4 c2 c3 c4
            go_wp2_with fail
            go_ret
            exact ⟨by simp, HB12.out.trans (hb13.mono HB12.out.size)⟩
end
end Go.Proofs.Ytcjbhjbjkfgphaa
