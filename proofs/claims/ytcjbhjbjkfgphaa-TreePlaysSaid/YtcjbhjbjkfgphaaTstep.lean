/-
  A step of a script of Sets and Drops, of any package of trees. Conditions: TreeApi and RopeFew hold of the packages; the acts are as the arguments' reader reads them.
  What the laws' script leaves, over any package of trees: a tree of at most sixty files. Conditions: TreeApi and RopeFew hold of the packages; the acts are as the arguments' reader reads them.
-/
import Derived.Test.YtcjbhjbjkfgphaaTalike
namespace Go.Proofs.Ytcjbhjbjkfgphaa
open Go.RowKit Go.Deep Go.Maps

section
variable {R : World → Option Addr → List UInt8 → Prop} {T : World → Option Addr → List FileM → Prop}
/-- A tree behind the first acts of a script. -/
def RunRel (T : World → Option Addr → List FileM → Prop) (w : World) (tv iv : Value) (W : World) : Prop :=
  ∃ (i : Nat) (p : Option Addr) (fs : List FileM), tv = .pointer p ∧ iv = .int .i64 (i : Int) ∧ i ≤ 60 ∧ fs.length ≤ i ∧ T W p fs ∧ Below w.heap.size w W
theorem length_putF_le : ∀ (fs : List FileM) (f : FileM), (putF fs f).length ≤ fs.length + 1
  | [], _ => by simp [putF]
  | g :: r, f => by
    have := length_putF_le r f
    unfold putF
    split
    · simp
    · split <;> simp <;> omega
/-- What Set and Drop leave, with however they end: an error, or a tree of at most one file more. -/
def StepAns (T : World → Option Addr → List FileM → Prop) (n : Nat) (w : World) (e : Ending) (w' : World) : Prop :=
  ∃ (q : Option Addr) (c : Int), e = .returned (.tuple #[.pointer q, .int .i64 c]) ∧ ((c == 0) = true → ∃ fs, T w' q fs ∧ fs.length ≤ n + 1) ∧ Below w.heap.size w w'
theorem set_step (K : TreeApi R T) {w p fs q l} (s : ByteArray) (v : Int) (t : ByteArray) (hT : T w p fs) (hR : R w q l) (ht : t = txt l) (hn : fs.length < 1024) (hs : s.size ≤ 281474976710656) (hv : (Lit.int .i64 v).wf = true) :
    Calls Try.prog 10 #[.pointer p, .string s, .int .i64 v, .pointer q] w (StepAns T fs.length w) := by
  by_cases h : RightP s
  · refine (K.set_ok s v t hT hR ht h (Nat.lt_of_le_of_lt (dropF_length_le _ _) hn) hv).mono ?_
    rintro e w' ⟨x, rfl, hx, hb⟩
    exact ⟨x, 0, rfl, fun _ => ⟨_, hx, length_putF_le _ _⟩, hb⟩
  · refine (K.set_path s v hT hR h hs hv).mono ?_
    rintro e w' ⟨x, rfl, hb⟩
    exact ⟨x, 71, rfl, fun h => absurd h (by decide), hb⟩
theorem drop_step (K : TreeApi R T) {w p fs} (s : ByteArray) (hT : T w p fs) (hs : s.size ≤ 281474976710656) :
    Calls Try.prog 12 #[.pointer p, .string s] w (StepAns T fs.length w) := by
  by_cases h : findF fs s = none
  · refine (K.drop_no s hT hs h).mono ?_
    rintro e w' ⟨x, rfl, hb⟩
    exact ⟨x, 72, rfl, fun h => absurd h (by decide), hb⟩
  · refine (K.drop_ok s hT h).mono ?_
    rintro e w' ⟨x, rfl, hx, hb⟩
    exact ⟨x, 0, rfl, fun _ => ⟨_, hx, Nat.le_succ_of_le (dropF_length_le _ _)⟩, hb⟩
end
end Go.Proofs.Ytcjbhjbjkfgphaa

namespace Go.Proofs.Ytcjbhjbjkfgphaa
open Go.RowKit Go.Deep Go.Maps

section
variable {R : World → Option Addr → List UInt8 → Prop} {T : World → Option Addr → List FileM → Prop}
def BuiltIs (T : World → Option Addr → List FileM → Prop) (w : World) (e : Ending) (w' : World) : Prop := ∃ p fs, e = .returned (.pointer p) ∧ T w' p fs ∧ fs.length ≤ 60 ∧ Below w.heap.size w w'
set_option maxRecDepth 100000 in
set_option maxHeartbeats 40000000 in
theorem built_any (F : RopeFew R) (K : TreeApi R T) (SA : Option Addr) (os : List ActM) (scap : Nat) (w : World) (hos : ActsAt w SA os) (_hlen : os.length ≤ maxLen) :
    Calls Try.prog 17 #[.slice SA os.length scap] w (BuiltIs T w) := by
  obtain ⟨nl, enl⟩ : ∃ nl, nl = os.length := ⟨_, rfl⟩
  rw [← enl] at _hlen ⊢
  unfold maxLen at _hlen
  have HOS := Lib.hid hos
  have ENL := Lib.hid enl
  have HNIL := Lib.hid (K.nil w)
  clear hos enl
  go_enter Try.func17, Try.ntmps17
  go_wp2_with fail
  go_loopw [3, 4] (fun tv iv wr => RunRel T w tv iv wr) (fun _ iv _ => 60 - (intOf iv).toNat)
  case atStart => exact ⟨0, none, [], rfl, rfl, by omega, by simp, HNIL.out, Below.refl _ _⟩
  case round =>
    obtain ⟨i, p, fs, rfl, rfl, hi, hfs, hT, hb⟩ := hrel
    obtain ⟨wo, rfl⟩ : ∃ wo, wo = wr := ⟨_, rfl⟩
    have HT := Lib.hid hT
    have HB := Lib.hid hb
    by_cases hio : i < nl ∧ i < 60
    · obtain ⟨hi1, hi2⟩ := hio
      obtain ⟨o, ho⟩ : ∃ o, os[i]? = some o := ⟨os[i]'(by have := ENL.out; omega), List.getElem?_eq_getElem _⟩
      obtain ⟨⟨wk, wi, wv, wp, ws⟩, sg, so, rfl, hrange⟩ := HOS.out i o ho
      have lsg := World.block_lt_of_cell? w _ (hrange 0 _ rfl)
      have kc : ∀ j u, o.cells[j]? = some u → wo.cell? ⟨sg, so + i * 5 + j, none⟩ = some u := fun j u hu => (hb.cell (p := ⟨sg, so + i * 5 + j, none⟩) lsg).trans (hrange j u hu)
      have k0 : wo.cell? ⟨sg, so + i * 5, none⟩ = some (.int .i64 o.kind) := kc 0 _ rfl
      have k1 : wo.cell? ⟨sg, so + i * 5 + 1, none⟩ = some (.int .i64 o.i) := kc 1 _ rfl
      have k2 : wo.cell? ⟨sg, so + i * 5 + 2, none⟩ = some (.int .i64 o.ver) := kc 2 _ rfl
      have k3 : wo.cell? ⟨sg, so + i * 5 + 3, none⟩ = some (.string o.path) := kc 3 _ rfl
      have k4 : wo.cell? ⟨sg, so + i * 5 + 4, none⟩ = some (.string o.s) := kc 4 _ rfl
      have hiI : (i : Int) < (nl : Int) := by omega
      have hi0 : (0 : Int) ≤ (i : Int) := by omega
      have hi60 : (i : Int) < 60 := by omega
      obtain ⟨WB, eWB⟩ : ∃ WB, WB = wo.alloc (.cells #[.int .i64 o.kind, .int .i64 o.i, .int .i64 o.ver, .string o.path, .string o.s] 27) := ⟨_, rfl⟩
      have hbB : Below wo.heap.size wo WB := by rw [eWB]; exact (Below.refl _ _).alloc (Nat.le_refl _) _
      have hWBs : WB.heap.size = wo.heap.size + 1 := by rw [eWB]; simp
      have hBox : WB.heap[wo.heap.size]? = some (.cells #[.int .i64 o.kind, .int .i64 o.i, .int .i64 o.ver, .string o.path, .string o.s] 27 (0, 0)) := by rw [eWB]; exact heap_alloc_new wo _
      have hbox : ∀ W, Below WB.heap.size WB W → W.cell? ⟨wo.heap.size, 0, none⟩ = some (.int .i64 o.kind) ∧ W.cell? ⟨wo.heap.size, 2, none⟩ = some (.int .i64 o.ver) ∧ W.cell? ⟨wo.heap.size, 3, none⟩ = some (.string o.path) ∧ W.cell? ⟨wo.heap.size, 4, none⟩ = some (.string o.s) := fun W hB => by
        have h := Below.obj hB hBox (by omega)
        exact ⟨cell_of_row _ _ 0 _ _ _ h, cell_of_row _ _ 2 _ _ _ h, cell_of_row _ _ 3 _ _ _ h, cell_of_row _ _ 4 _ _ _ h⟩
      obtain ⟨b0, b2, b3, b4⟩ := hbox WB (Below.refl _ _)
      have HTB := Lib.hid (K.below hT hbB)
      have HBB := Lib.hid (hb.trans (hbB.mono hb.size))
      have HBOX := Lib.hid hbox
      have HEWB := Lib.hid eWB
      have HWV := Lib.hid wv
      have HI := Lib.hid (And.intro hi2 hfs)
      unfold maxLen at wp ws
      have HSZ := Lib.hid (And.intro wp ws)
      clear hT hb ho wk wi wv wp ws hrange lsg kc eWB hbB hWBs hBox hbox hi1 hi2 hfs
      by_cases hs1 : o.s.size ≤ 100
      · have g1 : decide (100 < (o.s.size : Int)) = false := decide_eq_false (by omega)
        have g1n : decide (100 < o.s.size) = false := decide_eq_false (by omega)
        by_cases hs2 : o.path.size ≤ 100
        · have g2 : decide (100 < (o.path.size : Int)) = false := decide_eq_false (by omega)
          have g2n : decide (100 < o.path.size) = false := decide_eq_false (by omega)
          have HP := Lib.hid hs2
          obtain ⟨l, el⟩ : ∃ l, o.s = txt l := ⟨o.s.data.toList, (txt_of o.s).symm⟩
          have HOF := Lib.hid (F.of_ok l o.s WB el (by rw [el, size_txt] at hs1; omega))
          have EL := Lib.hid el
          clear hs1 hs2 el
          go_wp2_with fail
          rw [← HEWB.out]
          clear k0 k1 k2 k3 k4
          go_at_call 9
          (with_reducible refine HOF.out.mono ?_)
          rintro e w1 ⟨r, rfl, hr1, hb1⟩
          have HSET := Lib.hid (set_step K o.path o.ver o.s (K.below HTB.out hb1) hr1 EL.out (by have := HI.out; omega) (by have := HP.out; omega) HWV.out)
          have HB1 := Lib.hid hb1
          have HT1 := Lib.hid (K.below HTB.out hb1)
          have HBB1 := Lib.hid (HBB.out.trans (hb1.mono HBB.out.size))
          clear hr1 hb1 b0 b2 b3 b4
          obtain ⟨b0, b2, b3, _⟩ := HBOX.out w1 HB1.out
          go_wp2_with fail
          go_at_call 10
          (with_reducible refine HSET.out.mono ?_)
          rintro e w2 ⟨x1, c1, rfl, hx1, hb2⟩
          have HX1 := Lib.hid hx1
          have HB2 := Lib.hid (HB1.out.trans (hb2.mono HB1.out.size))
          have HT2 := Lib.hid (K.below HT1.out hb2)
          have HBB2 := Lib.hid (HBB1.out.trans (hb2.mono HBB1.out.size))
          clear hx1 hb2 b0 b2 b3
          obtain ⟨b0, _, b3, _⟩ := HBOX.out w2 HB2.out
          by_cases hk : o.kind = 2
          · have e1 : (o.kind == 2) = true := by simp [hk]
            have HDR := Lib.hid (drop_step K o.path HT2.out (by have := HP.out; omega))
            clear hk
            go_wp2_with fail
            go_at_call 12
            (with_reducible refine HDR.out.mono ?_)
            rintro e w3 ⟨x2, c2, rfl, hx2, hb3⟩
            have HX2 := Lib.hid hx2
            have HT3 := Lib.hid (K.below HT2.out hb3)
            have HBB3 := Lib.hid (HBB2.out.trans (hb3.mono HBB2.out.size))
            clear hx2 hb3 b0 b3
            cases hc : (c2 == 0)
            · have hlen : fs.length ≤ i + 1 := Nat.le_succ_of_le HI.out.2
              go_wp2_with fail
              go_roundw
              case rel => exact ⟨i + 1, p, fs, rfl, by go_num, by have := HI.out.1; omega, hlen, HT3.out, HBB3.out⟩
              case measure => simp [intOf]; omega
            · obtain ⟨fs2, ht2, hf2⟩ := HX2.out hc
              have HTN := Lib.hid ht2
              have HFN := Lib.hid hf2
              clear ht2 hf2
              have hlen : fs2.length ≤ i + 1 := Nat.le_trans HFN.out (Nat.succ_le_succ HI.out.2)
              go_wp2_with fail
              go_roundw
              case rel => exact ⟨i + 1, x2, fs2, rfl, by go_num, by have := HI.out.1; omega, hlen, HTN.out, HBB3.out⟩
              case measure => simp [intOf]; omega
          · have e1 : (o.kind == 2) = false := by simp [hk]
            clear hk
            cases hc : (c1 == 0)
            · have hlen : fs.length ≤ i + 1 := Nat.le_succ_of_le HI.out.2
              go_wp2_with fail
              go_roundw
              case rel => exact ⟨i + 1, p, fs, rfl, by go_num, by have := HI.out.1; omega, hlen, HT2.out, HBB2.out⟩
              case measure => simp [intOf]; omega
            · obtain ⟨fs2, ht2, hf2⟩ := HX1.out hc
              have HTN := Lib.hid ht2
              have HFN := Lib.hid hf2
              clear ht2 hf2
              have hlen : fs2.length ≤ i + 1 := Nat.le_trans HFN.out (Nat.succ_le_succ HI.out.2)
              go_wp2_with fail
              go_roundw
              case rel => exact ⟨i + 1, x1, fs2, rfl, by go_num, by have := HI.out.1; omega, hlen, HTN.out, HBB2.out⟩
              case measure => simp [intOf]; omega
        · have g2 : decide (100 < (o.path.size : Int)) = true := decide_eq_true (by omega)
          have g2n : decide (100 < o.path.size) = true := decide_eq_true (by omega)
          clear hs1 hs2
          go_wp2_with fail
          rw [← HEWB.out]
          go_roundw
          case rel => exact ⟨i + 1, p, fs, rfl, by go_num, by have := HI.out.1; omega, Nat.le_succ_of_le HI.out.2, HTB.out, HBB.out⟩
          case measure => simp [intOf]; omega
      · have g1 : decide (100 < (o.s.size : Int)) = true := decide_eq_true (by omega)
        have g1n : decide (100 < o.s.size) = true := decide_eq_true (by omega)
        clear hs1
        go_wp2_with fail
        rw [← HEWB.out]
        go_roundw
        case rel => exact ⟨i + 1, p, fs, rfl, by go_num, by have := HI.out.1; omega, Nat.le_succ_of_le HI.out.2, HTB.out, HBB.out⟩
        case measure => simp [intOf]; omega
    · have HFS := Lib.hid hfs
      clear hT hb hfs
      by_cases hi3 : i < nl
      · have hi4 : decide ((i : Int) < 60) = false := decide_eq_false (by omega)
        have hi5 : (i : Int) < (nl : Int) := by omega
        clear hio hi3
        go_wp2_with fail
        go_ret
        exact ⟨p, fs, rfl, HT.out, Nat.le_trans HFS.out hi, HB.out⟩
      · have hi5 : (nl : Int) ≤ (i : Int) := by omega
        clear hio hi3
        go_wp2_with fail
        go_ret
        exact ⟨p, fs, rfl, HT.out, Nat.le_trans HFS.out hi, HB.out⟩
end
end Go.Proofs.Ytcjbhjbjkfgphaa
