/-
  TreeOrder, of any package of trees. Conditions: TreeApi and RopeFew hold of the packages; the acts are as the arguments' reader reads them.
-/
import Derived.Test.YtcjbhjbjkfgphaaTstep
import Derived.Deep.RegionHeld3
import Derived.Lib.QuietBelow
import Derived.BigQuiet
import Derived.Laws.Cover1
namespace Go.Proofs.Ytcjbhjbjkfgphaa
open Go.RowKit Go.Deep Go.Maps Go.Sort

section
variable {R : World → Option Addr → List UInt8 → Prop} {T : World → Option Addr → List FileM → Prop}

theorem filter_mid {pre suf : List FileM} {f : FileM} {q : FileM → Bool} (hq : q f = true) : ((pre ++ f :: suf).filter q)[(pre.filter q).length]? = some f := by
  rw [List.filter_append, List.filter_cons_of_pos hq, List.getElem?_append_right (Nat.le_refl _), Nat.sub_self]
  rfl
theorem filter_next {fs : List FileM} {q : FileM → Bool} {i : Nat} {f : FileM} (hf : fs[i]? = some f) (hq : q f = true) : (fs.filter q)[((fs.take i).filter q).length]? = some f := by
  have e : fs = fs.take i ++ f :: fs.drop (i + 1) := by
    have hi := (List.getElem?_eq_some_iff.1 hf).1
    conv => lhs; rw [← List.take_append_drop i fs]
    rw [List.drop_eq_getElem_cons hi]
    rw [List.getElem?_eq_getElem hi] at hf
    injection hf with hf
    rw [hf]
  have h := filter_mid (pre := fs.take i) (suf := fs.drop (i + 1)) hq
  rw [← e] at h
  exact h
theorem filter_take {fs : List FileM} {q : FileM → Bool} {i : Nat} {f : FileM} (hf : fs[i]? = some f) : ((fs.take (i + 1)).filter q).length = ((fs.take i).filter q).length + if q f = true then 1 else 0 := by
  rw [List.take_add_one, hf, List.filter_append, List.length_append]
  by_cases hq : q f = true
  · simp [hq]
  · simp [hq]
theorem rising_at {fs : List FileM} (hr : Rising fs) {i j : Nat} {f g : FileM} (hi : fs[i]? = some f) (hj : fs[j]? = some g) (hij : i < j) : pless f.path g.path = true := by
  have e : fs = fs.take (i + 1) ++ fs.drop (i + 1) := (List.take_append_drop _ _).symm
  rw [e] at hr
  refine (rising_split hr).2.2 f ?_ g ?_
  · exact List.mem_of_getElem? (i := i) (by rw [List.getElem?_take, if_pos (by omega)]; exact hi)
  · exact List.mem_of_getElem? (i := j - (i + 1)) (by rw [List.getElem?_drop, show i + 1 + (j - (i + 1)) = j by omega]; exact hj)

theorem dl0_t (W : World) : Below W.heap.size W W.drew := (Below.refl _ W).drew
set_option maxRecDepth 100000 in
set_option maxHeartbeats 8000000 in
theorem order_any (F : RopeFew R) (K : TreeApi R T) (SA : Option Addr) (os : List ActM) (scap : Nat) (a b : ByteArray) (w : World) (hos : ActsAt w SA os) (hlen : os.length ≤ maxLen) :
    Calls Try.prog 4 #[.slice SA os.length scap, .string a, .string b] w (TrueIs w) := by
  have HAL := Lib.hid fun (W : World) => alive_any F K W
  have HBU := Lib.hid (built_any F K SA os scap w hos hlen)
  clear hos hlen
  by_cases h1 : 100 < a.size
  · have g1 : decide (100 < (a.size : Int)) = true := decide_eq_true (by omega)
    have g1n : decide (100 < a.size) = true := decide_eq_true h1
    clear h1
    go_enter Try.func4, Try.ntmps4
    go_wp2_with fail
    go_at_call 7
    (with_reducible refine (HAL.out _).mono ?_)
    rintro e w1 ⟨rfl, hb1⟩
    go_wp2_with fail
    go_ret
    exact ⟨rfl, hb1⟩
  · have g1 : decide (100 < (a.size : Int)) = false := decide_eq_false (by omega)
    have g1n : decide (100 < a.size) = false := decide_eq_false h1
    by_cases h2 : 100 < b.size
    · have g2 : decide (100 < (b.size : Int)) = true := decide_eq_true (by omega)
      have g2n : decide (100 < b.size) = true := decide_eq_true h2
      clear h1 h2
      go_enter Try.func4, Try.ntmps4
      go_wp2_with fail
      go_at_call 7
      (with_reducible refine (HAL.out _).mono ?_)
      rintro e w1 ⟨rfl, hb1⟩
      go_wp2_with fail
      go_ret
      exact ⟨rfl, hb1⟩
    · have g2 : decide (100 < (b.size : Int)) = false := decide_eq_false (by omega)
      have g2n : decide (100 < b.size) = false := decide_eq_false h2
      have HSZ := Lib.hid (And.intro (show a.size ≤ 281474976710656 by omega) (show b.size ≤ 281474976710656 by omega))
      clear h1 h2
      go_enter Try.func4, Try.ntmps4
      go_wp2_with fail
      go_at_call 17
      (with_reducible refine HBU.out.mono ?_)
      rintro e w1 ⟨p, fs, rfl, hT, h60, hb1⟩
      have HFI := Lib.hid (K.files_is hT)
      have HB1 := Lib.hid hb1
      have HT1 := Lib.hid hT
      have HRI := Lib.hid (And.intro (K.rise hT) (K.paths hT))
      have H60 := Lib.hid h60
      clear hT h60 hb1 g1 g1n g2 g2n
      go_wp2_with fail
      go_at_call 18
      (with_reducible refine HFI.out.mono ?_)
      rintro e w2 ⟨fv, rfl, hfv, hb2⟩
      obtain ⟨LA, lc, rfl, hfat⟩ := hfv.form
      have HSC := Lib.hid (K.scan_is a b (K.below HT1.out hb2) HSZ.out.1 HSZ.out.2)
      have HT2 := Lib.hid (K.below HT1.out hb2)
      have HB2 := Lib.hid (HB1.out.trans (hb2.mono HB1.out.size))
      have HFA := Lib.hid hfat
      clear hfv hfat hb2
      go_wp2_with fail
      go_at_call 19
      (with_reducible refine HSC.out.mono ?_)
      rintro e w3 ⟨sv, rfl, hsv, hb3⟩
      obtain ⟨sA, sc, rfl, hsat⟩ := hsv.form
      have HT3 := Lib.hid (K.below HT2.out hb3)
      have HB3 := Lib.hid (HB2.out.trans (hb3.mono HB2.out.size))
      have HFA3 := Lib.hid (HFA.out.below hb3)
      have HSA := Lib.hid hsat
      clear hsv hsat hb3
      obtain ⟨n, en⟩ : ∃ n, n = fs.length := ⟨_, rfl⟩
      obtain ⟨k, ek⟩ : ∃ k, k = (((fs.filter fun f => between a b f.path).map fun f => f.path.data.toList)).length := ⟨_, rfl⟩
      rw [← en, ← ek]
      have hn60 : n ≤ 60 := by rw [en]; exact H60.out
      have EN := Lib.hid en
      have EK := Lib.hid (show k = (fs.filter fun f => between a b f.path).length by rw [ek, List.length_map])
      clear en ek
      go_wp2_with fail
      go_loopw [10, 11] (fun nv iv wr => ∃ i c : Nat, iv = .int .i64 (i : Int) ∧ nv = .int .i64 (c : Int) ∧ i ≤ n ∧ Hid (c = ((fs.take i).filter fun f => between a b f.path).length) ∧ Below w3.heap.size w3 wr) (fun _ iv _ => n - (intOf iv).toNat)
      case atStart => exact ⟨0, 0, rfl, rfl, Nat.zero_le _, Lib.hid (by simp), Below.refl _ _⟩
      case round =>
        obtain ⟨i, c, rfl, rfl, hi, HC, hbr⟩ := hrel
        have HBR := Lib.hid hbr
        by_cases hlt : i < n
        · obtain ⟨f, hf⟩ : ∃ f, fs[i]? = some f := ⟨fs[i]'(by have := EN.out; omega), List.getElem?_eq_getElem _⟩
          obtain ⟨g, o, eLA, hr0⟩ := HFA3.out i f hf
          subst eLA
          have hcell : ∀ W, Below w3.heap.size w3 W → W.cell? ⟨g, o + i * 3, none⟩ = some (.string f.path) := fun W hW => by
            obtain ⟨g', o', e', hr⟩ := (HFA3.out.below hW) i f hf
            cases e'
            exact hr 0 _ rfl
          have HCELL := Lib.hid hcell
          have k0 := hcell wr hbr
          have hfr := HRI.out.2 f (List.mem_of_getElem? hf)
          have HRT := Lib.hid fun (W : World) => show Calls Try.prog 14 #[.string f.path] W (Answers (.bool true) W) from by
            have := K.right_is f.path W (by have := hfr.2.1; omega)
            rw [decide_eq_true hfr] at this
            exact this
          have hi0 : (0 : Int) ≤ (i : Int) := by omega
          have hiI : (i : Int) < (n : Int) := by omega
          have gi : decide ((i : Int) < (n : Int)) = true := decide_eq_true hiI
          have gin : decide (i < n) = true := decide_eq_true hlt
          have HF := Lib.hid hf
          have HT4 := Lib.hid (filter_take (q := fun f => between a b f.path) hf)
          have KR := Lib.hid (cell_regrown k0)
          have CR := Lib.hid (show ∀ d os, Calls Try.prog 14 #[.string f.path] (grow (redrawn wr d) os) fun e w'' => e = .returned (.bool true) ∧ ∃ p : Regrown, w'' = grow (redrawn wr p.d) p.os from fun d os => Calls.regrown_of (HRT.out _))
          have hwi : wrap64 ((i : Int) + 1) = (i : Int) + 1 := IntWalk.wrap64_in _ (by omega)
          have HNX := Lib.hid fun (hq : between a b f.path = true) => filter_next (q := fun f => between a b f.path) hf hq
          have HSA4 := Lib.hid HSA.out
          have HI1 := Lib.hid (show i + 1 ≤ n from hlt)
          have HI2 := Lib.hid (show n - (i + 1) < n - i by omega)
          have hzc : i = 0 ∨ ∃ f0 j, fs[j]? = some f0 ∧ j + 1 = i := by
            rcases Nat.eq_zero_or_pos i with h0 | h0
            · exact .inl h0
            · exact .inr ⟨fs[i - 1]'(by have := EN.out; omega), i - 1, List.getElem?_eq_getElem _, by omega⟩
          have HZC := Lib.hid hzc
          clear hcell hfr hr0 hzc
          go_upto_region 10 with fail
          go_cut [59] from 35 to 93 (fun t wx => t = .bool false ∧ Below wr.heap.size wr wx)
          case first =>
            rcases HZC.out with hz | ⟨f0, j, hf0, hji⟩
            · have gz : decide (0 < (i : Int)) = false := decide_eq_false (by omega)
              have gzn : decide (0 < i) = false := decide_eq_false (by omega)
              have kr := KR.out
              clear hf hbr hi hz hlt
              refine wp_region_quiet_below (by kernel_rfl) (by kernel_rfl) ?_
              repeat (go_big_quiet_step (first | exact CR.out _ _))
              refine wpQuiet_nil ?_
              rintro w5 ⟨⟨dq, osq⟩, rfl⟩
              have hb5 := below_regrown wr dq osq
              generalize grow (redrawn wr dq) osq = w5 at hb5 ⊢
              clear kr k0
              go_wp2_with fail
              go_meet
              case rel => exact ⟨rfl, hb5⟩
            · have ple : Op.bytesLess f0.path.toList f.path.toList = true := rising_at HRI.out.1 hf0 hf (by omega)
              have k1 : wr.cell? ⟨g, o + j * 3, none⟩ = some (.string f0.path) := by
                obtain ⟨g', o', e', hr⟩ := (HFA3.out.below hbr) j f0 hf0
                cases e'
                exact hr 0 _ rfl
              have kr1 := cell_regrown k1
              have kr := KR.out
              have gz : decide (0 < (i : Int)) = true := decide_eq_true (by omega)
              have gzn : decide (0 < i) = true := decide_eq_true (by omega)
              have gzp : (0 : Int) < (i : Int) := by omega
              have q2 : IntKind.i64.wrap ((i : Int) - 1) = (j : Int) := by rw [show (i : Int) - 1 = (j : Int) by omega]; exact IntWalk.i64_in _ (by omega)
              have hj0 : (0 : Int) ≤ (j : Int) := by omega
              have hjI : (j : Int) < (n : Int) := by omega
              clear hf hf0 hbr hi hlt hji
              refine wp_region_quiet_below (by kernel_rfl) (by kernel_rfl) ?_
              repeat (go_big_quiet_step (first | exact CR.out _ _))
              refine wpQuiet_nil ?_
              rintro w5 ⟨⟨dq, osq⟩, rfl⟩
              have hb5 := below_regrown wr dq osq
              generalize grow (redrawn wr dq) osq = w5 at hb5 ⊢
              clear kr kr1 k0 k1
              go_wp2_with fail
              go_meet
              case rel => exact ⟨rfl, hb5⟩
          obtain ⟨rfl, hbc⟩ := hcut
          have hbw := HBR.out.trans (hbc.mono HBR.out.size)
          have kw := HCELL.out wc hbw
          have HBW := Lib.hid hbw
          clear hbc hbw k0 hf hbr hi hlt
          cases ea : Op.bytesLess f.path.toList a.toList with
          | true =>
            have HQ := Lib.hid (show between a b f.path = false by unfold between pless; rw [ea]; rfl)
            go_wp2_with fail
            exact ⟨⟨i + 1, c, rfl, rfl, HI1.out, Lib.hid (by have h := HT4.out; simp only [HQ.out, Bool.false_eq_true, if_false, Nat.add_zero] at h; rw [h]; exact HC.out), HBW.out⟩, HI2.out⟩
          | false =>
            cases eb : Op.bytesLess f.path.toList b.toList with
            | false =>
              have HQ := Lib.hid (show between a b f.path = false by unfold between pless; rw [ea, eb]; rfl)
              go_wp2_with fail
              exact ⟨⟨i + 1, c, rfl, rfl, HI1.out, Lib.hid (by have h := HT4.out; simp only [HQ.out, Bool.false_eq_true, if_false, Nat.add_zero] at h; rw [h]; exact HC.out), HBW.out⟩, HI2.out⟩
            | true =>
              have hq : between a b f.path = true := by unfold between pless; rw [ea, eb]; rfl
              have HQ := Lib.hid hq
              have hnx := HNX.out hq
              rw [← HC.out] at hnx
              have hck : c < k := by rw [EK.out]; exact (List.getElem?_eq_some_iff.1 hnx).1
              obtain ⟨kk, eSA, hs0⟩ := HSA.out c f.path.data.toList (by rw [List.getElem?_map, hnx]; rfl)
              rw [txt_of] at hs0
              have s0 : wc.cell? ⟨kk, c, none⟩ = some (.string f.path) := by rw [HBW.out.cell (World.block_lt_of_cell? w3 _ hs0)]; exact hs0
              subst eSA
              have q1 : decide ((k : Int) ≤ (c : Int)) = false := decide_eq_false (by omega)
              have q2 : decide (k ≤ c) = false := decide_eq_false (by omega)
              have q3 : (c : Int) < (k : Int) := by omega
              have q4 : (0 : Int) ≤ (c : Int) := by omega
              have hwc : wrap64 ((c : Int) + 1) = (c : Int) + 1 := IntWalk.wrap64_in _ (by have := EK.out; have := EN.out; have := List.length_filter_le (fun f => between a b f.path) fs; omega)
              clear hnx hck hs0 hq
              go_upto_region 13 with fail
              go_quiet (fail)
              have hbq : Below wc.heap.size wc (wc.drewN nq) := ⟨rfl, rfl, rfl, Nat.le_refl _, fun _ _ => rfl⟩
              have HBQ := Lib.hid (HBW.out.trans (hbq.mono HBW.out.size))
              clear hbq
              go_wp2_with fail
              exact ⟨⟨i + 1, c + 1, rfl, by rw [hwc]; rfl, HI1.out, Lib.hid (by have h := HT4.out; simp only [HQ.out, if_true] at h; rw [h, ← HC.out]), HBQ.out⟩, HI2.out⟩
        · have hie : i = n := by omega
          subst hie
          have hck : c = k := by rw [HC.out, EN.out, List.take_length, ← EK.out]
          subst hck
          have HLE := Lib.hid (K.len_is (K.below HT3.out hbr))
          have gi : decide ((i : Int) < (i : Int)) = false := by simp
          have EN2 := Lib.hid (show (fs.length : Int) = (i : Int) by rw [← EN.out])
          clear hi hlt hbr
          go_wp2_with fail
          go_at_call 7
          (with_reducible refine (HAL.out _).mono ?_)
          rintro e w4 ⟨rfl, hb4⟩
          have HL4 := Lib.hid (K.len_is (K.below HT3.out (HBR.out.trans (hb4.mono HBR.out.size))))
          rw [EN2.out] at HL4
          have HB4 := Lib.hid (HB3.out.trans ((HBR.out.trans (hb4.mono HBR.out.size)).mono HB3.out.size))
          clear hb4
          go_wp2_with fail
          go_at_call 20
          (with_reducible refine HL4.out.mono ?_)
          rintro e w5 ⟨rfl, hb5⟩
          have HB5 := Lib.hid (HB4.out.trans (hb5.mono HB4.out.size))
          clear hb5
          go_wp2_with fail
          go_ret
          exact ⟨by simp, HB5.out⟩
end
end Go.Proofs.Ytcjbhjbjkfgphaa
