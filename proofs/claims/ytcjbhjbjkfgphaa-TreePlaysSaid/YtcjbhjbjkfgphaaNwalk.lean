/-
  The program's iterator over a tree's files: the closure that goes down its nodes: it hands over the files whose paths are not less than a text, by their paths. Conditions: the loop's body keeps the blocks that the closure reads.
-/
import Derived.RangeFuncKeeps
import Derived.RangeFuncBound
import Derived.RangeFuncLeaves
import Derived.RangeFuncFrom
import Derived.RangeFuncCalls
import Derived.Shelf.Abstract
import Derived.OwnWalkIn
import Derived.TacticsInMore
import Derived.LoopIn
import Derived.Sort.CutIn
import Derived.Stop.RegionWithIn
import Derived.Test.YtcjbhjbjkfgphaaRcopy
import Derived.Test.YtcjbhjbjkfgphaaNtree
namespace Go.Proofs.Ytcjbhjbjkfgphaa
open Go.RowKit Go.Deep Go.Shelf

attribute [local go_sem] Oper.semAt_some

/-- What a loop's body keeps: all that lay ahead of n0, and the blocks that p tells of. -/
def Kp (n0 : Nat) (p : Nat → TypeId → Prop) (W W' : World) : Prop := Below n0 W W' ∧ ∀ k cs t fr, W.heap[k]? = some (.cells cs t fr) → p k t → W'.heap[k]? = some (.cells cs t fr)
theorem Kp.trans {n0 : Nat} {p : Nat → TypeId → Prop} {A B C : World} (h : Kp n0 p A B) (k : Kp n0 p B C) : Kp n0 p A C := ⟨h.1.trans k.1, fun j cs t fr hj hp => k.2 j cs t fr (h.2 j cs t fr hj hp) hp⟩
theorem Kp.of_below {n0 : Nat} {p : Nat → TypeId → Prop} {W W' : World} (h : Below W.heap.size W W') (hn : n0 ≤ W.heap.size) : Kp n0 p W W' := ⟨h.mono hn, fun k _ _ _ hk _ => (h.block k (Array.getElem?_eq_some_iff.1 hk).1).trans hk⟩
theorem Kp.refl (n0 : Nat) (p : Nat → TypeId → Prop) (W : World) : Kp n0 p W W := ⟨Below.refl _ _, fun _ _ _ _ h _ => h⟩
theorem Kp.put {n0 : Nat} {p : Nat → TypeId → Prop} {w : World} (hn : n0 ≤ w.heap.size) (W : World) (l : Nat) (o o' : Obj) (hl : w.heap.size ≤ l) (h : W.heap[l]? = some o) (hc : o.isCells = false) (hw : o.isWalk = false) : Kp n0 p W (W.putObj l o') :=
  ⟨belowK_b hn W l o o' hl h hc hw, fun k cs t fr hk _ => by
    have e : k ≠ l := fun e => by
      subst e
      rw [h] at hk
      cases hk
      cases hc
    exact (World.putObj_heap_other e).trans hk⟩

/-- What the iterator hands over. -/
def encF (x : FX) : Array Value := #[x.agg]
/-- What k files from i on, and the kids around them, hand over. -/
def outF (fs : List FX) (os : Nat → List FX) (i : Nat) : Nat → List FX
  | 0 => os i
  | k + 1 => outF fs os i k ++ (match fs[i + k]? with | some f => f :: os (i + k + 1) | none => [])
theorem outF_mono (fs : List FX) (os : Nat → List FX) (i : Nat) {k m : Nat} (h : k ≤ m) : outF fs os i k <+: outF fs os i m := by
  induction m with
  | zero =>
    have : k = 0 := by omega
    subst this
    exact List.prefix_refl _
  | succ m ih =>
    rcases Nat.lt_or_ge k (m + 1) with h1 | h1
    · exact (ih (by omega)).trans (List.prefix_append _ _)
    · have : k = m + 1 := by omega
      subst this
      exact List.prefix_refl _
theorem outF_succ {fs : List FX} {os : Nat → List FX} {i k : Nat} {f : FX} (h : fs[i + k]? = some f) : outF fs os i (k + 1) = outF fs os i k ++ f :: os (i + k + 1) := by
  show _ ++ _ = _
  rw [h]

/-- What is so behind a walk that hands over o. -/
def WalkA (n0 : Nat) (p : Nat → TypeId → Prop) (J Jx : List FX → World → Prop) (pre o : List FX) (W : World) (ok : Bool) (W' : World) : Prop :=
  (ok = true → J (pre ++ o) W' ∧ Kp n0 p W W') ∧ (ok = false → ∃ q, q <+: o ∧ Jx (pre ++ q) W')
/-- The closure's call at a node's address hands over o. -/
def WalkC (Wb : World) (n0 : Nat) (p : Nat → TypeId → Prop) (N B1 B2 B3 : Nat) (J Jx : List FX → World → Prop) (pk : Option Addr) (o : List FX) : Prop :=
  ∀ (n : Nat) (pre : List FX) (W : World), Kp n0 p Wb W → J pre W → pre.length + o.length ≤ N →
    CallsIn Fence.wide n Try.prog 46 #[.pointer pk, .pointer (some ⟨B1, 0, none⟩), .pointer (some ⟨B2, 0, none⟩), .pointer (some ⟨B3, 0, none⟩)] W fun e W' => ∃ ok, e = .returned (.bool ok) ∧ WalkA n0 p J Jx pre o W ok W'
def WalkF (B1 B2 B3 : Nat) : Value := .func (.func 46) #[] #[.pointer (some ⟨B1, 0, none⟩), .pointer (some ⟨B2, 0, none⟩), .pointer (some ⟨B3, 0, none⟩)]
/-- The closure's boxes: the text, itself, yield. -/
structure Boxes (w : World) (s : ByteArray) (l B1 B2 B3 : Nat) : Prop where
  b1 : w.heap[B1]? = some (.cells #[.string s] 9)
  b2 : w.heap[B2]? = some (.cells #[WalkF B1 B2 B3] 97)
  b3 : w.heap[B3]? = some (.cells #[.func (.yield l) #[] #[]] 96)
structure BoxesP (p : Nat → TypeId → Prop) (B1 B2 B3 : Nat) : Prop where
  p1 : p B1 9
  p2 : p B2 97
  p3 : p B3 96
theorem Boxes.kept {n0 : Nat} {p : Nat → TypeId → Prop} {w w' : World} {s : ByteArray} {l B1 B2 B3 : Nat} (h : Boxes w s l B1 B2 B3) (hp : BoxesP p B1 B2 B3) (hk : Kp n0 p w w') : Boxes w' s l B1 B2 B3 :=
  ⟨hk.2 _ _ _ _ h.b1 hp.p1, hk.2 _ _ _ _ h.b2 hp.p2, hk.2 _ _ _ _ h.b3 hp.p3⟩

set_option maxRecDepth 100000 in
theorem walk_none (Wb : World) (n0 : Nat) (p : Nat → TypeId → Prop) (N B1 B2 B3 : Nat) (J Jx : List FX → World → Prop) : WalkC Wb n0 p N B1 B2 B3 J Jx none [] := by
  intro n pre W hK hJ _
  have HJ := Lib.hid hJ
  clear hK hJ
  refine callsIn_of_wp Try.func46 rfl (wide_fn _) ?_ wide_round
  simp only [Try.ntmps46, List.size_toArray, List.length_cons, List.length_nil, Nat.reduceAdd, Nat.reduceSub, Array.replicate_succ, Array.replicate_zero, List.push_toArray, List.append_toArray, List.nil_append, List.cons_append]
  gi_wp2
  go_ret
  exact ⟨true, rfl, fun _ => ⟨by rw [List.append_nil]; exact HJ.out, Kp.refl _ _ _⟩, fun h => by cases h⟩

theorem region_true {n0 : Nat} {p : Nat → TypeId → Prop} {J Jx : List FX → World → Prop} {fs : List FX} {os : Nat → List FX} {i k : Nat} {x : FX} {pre : List FX} {wr w2 w3 : World} {ok2 : Bool} (hx : fs[i + k]? = some x) (hp : outF fs os i k ++ x :: os (i + k + 1) <+: outF fs os i (fs.length - i)) (hw : Kp n0 p wr w2)
    (hB : WalkA n0 p J Jx (pre ++ outF fs os i k ++ [x]) (os (i + k + 1)) w2 ok2 w3) : ∃ ok, Value.bool (!ok2) = .bool (!ok) ∧ (ok = true → J (pre ++ outF fs os i (k + 1)) w3 ∧ Kp n0 p wr w3) ∧ (ok = false → ∃ q, q <+: outF fs os i (fs.length - i) ∧ Jx (pre ++ q) w3) := by
  refine ⟨ok2, rfl, fun h => ?_, fun h => ?_⟩
  · obtain ⟨h1, h2⟩ := hB.1 h
    rw [outF_succ hx]
    refine ⟨?_, hw.trans h2⟩
    simpa using h1
  · obtain ⟨q, h1, h2⟩ := hB.2 h
    refine ⟨outF fs os i k ++ x :: q, List.IsPrefix.trans ?_ hp, by simpa using h2⟩
    obtain ⟨r, hr⟩ := h1
    exact ⟨r, by rw [← hr]; simp⟩

set_option maxRecDepth 100000 in
set_option maxHeartbeats 4000000 in
theorem walk_step (PX : FX → Prop) (Wb w0 : World) (p : Nat → TypeId → Prop) (N l B1 B2 B3 : Nat) (J Jx : List FX → World → Prop)
    (hJB : ∀ q W W', J q W → Below W.heap.size W W' → J q W')
    (hY : ∀ m pre x W, PX x → J pre W → pre.length < N → YieldAt Fence.wide m Try.prog l (encF x) W fun e W' =>
      (e = .returned (.bool true) ∧ J (pre ++ [x]) W' ∧ Kp w0.heap.size p W W') ∨ (e = .returned (.bool false) ∧ Jx (pre ++ [x]) W'))
    (s : ByteArray) (hX : Boxes Wb s l B1 B2 B3) (hP : BoxesP p B1 B2 B3) (hw0 : Below w0.heap.size w0 Wb)
    (b : Nat) (fs : List FX) (ad : List Nat) (hnode : NodeAt w0 b fs ad) (hr : RisingX fs) (hl : fs.length ≤ 64) (hpf : ∀ x ∈ fs, PX x)
    (os : Nat → List FX) (o : List FX) (ho : ∀ i t, PlaceIs fs s i t → o = outF fs os i (fs.length - i))
    (pks : Nat → Option Addr) (hkid : ∀ m, m ≤ fs.length → ∀ W, Below w0.heap.size w0 W → Calls Try.prog 32 #[.pointer (some ⟨b, 0, none⟩), .int .i64 (m : Int)] W fun e w' => e = .returned (.pointer (pks m)) ∧ W = w')
    (hwalk : ∀ m, m ≤ fs.length → WalkC Wb w0.heap.size p N B1 B2 B3 J Jx (pks m) (os m)) :
    WalkC Wb w0.heap.size p N B1 B2 B3 J Jx (some ⟨b, 0, none⟩) o := by
  intro n pre W hK hJ hN
  have hbx := hX.kept hP hK
  have c1 : W.cell? ⟨B1, 0, none⟩ = some (.string s) := obj_cell hbx.b1 0
  have HK := Lib.hid hK
  have HP := Lib.hid (callsIn_wide (n := n - 1).2 (place_is s (hnode.below (hw0.trans hK.1)) hr hl))
  have HJ := Lib.hid hJ
  have HN := Lib.hid hN
  have HX := Lib.hid hX
  have HPP := Lib.hid hP
  have HW0 := Lib.hid hw0
  have HKID := Lib.hid hkid
  have HWK := Lib.hid hwalk
  have HYY := Lib.hid hY
  have HPF0 := Lib.hid hpf
  have HJB := Lib.hid hJB
  have HO := Lib.hid ho
  have HNODE := Lib.hid hnode
  have HL := Lib.hid hl
  clear hK hJ hN hX hP hw0 hkid hwalk hY hpf hJB ho hnode hr hl hbx
  refine callsIn_of_wp Try.func46 rfl (wide_fn _) ?_ wide_round
  simp only [Try.ntmps46, List.size_toArray, List.length_cons, List.length_nil, Nat.reduceAdd, Nat.reduceSub, Array.replicate_succ, Array.replicate_zero, List.push_toArray, List.append_toArray, List.nil_append, List.cons_append]
  gi_wp2_with fail
  refine ⟨trivial, (fun h => by cases h), ?_⟩
  gi_at_call 40
  (with_reducible refine HP.out.mono ?_)
  rintro e w1 ⟨i, th, rfl, hpl, hb1⟩
  have hbs1 := HK.out.1.size
  have hbs0 := HW0.out.size
  have hk1 := Kp.of_below (n0 := w0.heap.size) (p := p) hb1 (by omega)
  have HK1 := Lib.hid (HK.out.trans hk1)
  have HKW := Lib.hid hk1
  have HJ1 := Lib.hid (HJB.out _ _ _ HJ.out hb1)
  have hbx1 := HX.out.kept HPP.out HK1.out
  have d2 : w1.cell? ⟨B2, 0, none⟩ = some (WalkF B1 B2 B3) := obj_cell hbx1.b2 0
  unfold WalkF at d2
  have hle := hpl.le
  have HLE := Lib.hid hle
  have HOO := Lib.hid (HO.out i th hpl)
  have HS1 := Lib.hid (show w0.heap.size ≤ w1.heap.size from by have := hb1.size; omega)
  have KD := Lib.hid fun (m : Nat) (W : World) (hW : Below w0.heap.size w0 W) => (callsIn_wide (n := m)).2 (HKID.out i hle W hW)
  have hbd : Below w1.heap.size w1 w1.drew := (Below.refl _ w1).drew
  have WD := Lib.hid (HWK.out i hle (n - 1) pre w1.drew (HK1.out.trans (Kp.of_below hbd HS1.out)) (HJB.out _ _ _ HJ1.out hbd) (by
    have h1 := HN.out
    have h2 := HO.out i th hpl
    have h3 := (outF_mono fs os i (Nat.zero_le (fs.length - i))).length_le
    rw [← h2] at h3
    have h4 : (outF fs os i 0) = os i := rfl
    rw [h4] at h3
    omega))
  have KD1 := Lib.hid (KD.out (n - 1) w1.drew (HW0.out.trans (HK1.out.1.trans (hbd.mono HS1.out))))
  have HBD := Lib.hid hbd
  have d2' : w1.drew.cell? ⟨B2, 0, none⟩ = some (.func (.func 46) #[] #[.pointer (some ⟨B1, 0, none⟩), .pointer (some ⟨B2, 0, none⟩), .pointer (some ⟨B3, 0, none⟩)]) := d2
  clear c1 hpl hb1 hk1 hbx1 hle hbs1 hbs0 hbd d2
  gi_wp2_with fail
  gi_cut [21] from 16 (fun t wx => ∃ ok, t = .bool (!ok) ∧ WalkA w0.heap.size p J Jx pre (os i) w1.drew ok wx)
  case first =>
    gi_region_with (first
      | (refine ⟨trivial, (fun h => by cases h), ?_⟩; gi_at_call 32; (with_reducible refine KD1.out.mono ?_); rintro e w2 ⟨rfl, rfl⟩)
      | (refine ⟨trivial, (fun h => by cases h), ?_⟩; gi_at_call 46; (with_reducible refine WD.out.mono ?_); rintro e w2 ⟨ok, rfl, hA⟩))
    all_goals
      gi_wp2_with fail
      gi_meet
      case rel => exact ⟨ok, rfl, hA⟩
  obtain ⟨ok, rfl, hA⟩ := hcut
  cases ok with
  | false =>
    obtain ⟨q, hq, hx⟩ := hA.2 rfl
    have HQ := Lib.hid (And.intro hq hx)
    clear hA hq hx
    gi_wp2
    go_ret
    refine ⟨false, rfl, (fun h => by cases h), fun _ => ⟨q, ?_, HQ.out.2⟩⟩
    rw [HOO.out]
    exact HQ.out.1.trans (outF_mono fs os i (Nat.zero_le _))
  | true =>
    obtain ⟨hj2, hk2⟩ := hA.1 rfl
    have HJ2 := Lib.hid hj2
    have HK2 := Lib.hid hk2
    clear hA hj2 hk2
    obtain ⟨A1, ca, hB0, hcA, _, hfile⟩ := HNODE.out.file
    have HB0 := Lib.hid hB0
    have HFILE := Lib.hid hfile
    obtain ⟨N0, eN0⟩ : ∃ m, m = fs.length := ⟨_, rfl⟩
    have EN := Lib.hid eN0
    rw [← eN0] at HB0
    have HKB := Lib.hid ((HKW.out).trans ((Kp.of_below (n0 := w0.heap.size) (p := p) HBD.out HS1.out).trans HK2.out))
    clear hB0 hcA hfile eN0
    gi_wp2_with fail
    gi_loopw [6] (fun jv wr => ∃ k : Nat, jv = .int .i64 ((i + k : Nat) : Int) ∧ i + k ≤ N0 ∧ Hid (J (pre ++ outF fs os i k) wr ∧ Kp w0.heap.size p W wr)) (fun jv _ => N0 - (intOf jv).toNat)
    case atStart => exact ⟨0, rfl, by have := HLE.out; have := EN.out; omega, Lib.hid ⟨HJ2.out, HKB.out⟩⟩
    case round =>
      obtain ⟨k, rfl, hk, HR⟩ := hrel
      have HKW2 := Lib.hid (HK.out.trans HR.out.2)
      have hW0 := HW0.out.trans HKW2.out.1
      have kb0 := HB0.out wr hW0
      obtain ⟨j, ej⟩ : ∃ j, j = i + k := ⟨_, rfl⟩
      rw [← ej] at hk ⊢
      have EJ := Lib.hid ej
      clear ej
      by_cases hlt : j < N0
      · obtain ⟨x, hx⟩ : ∃ x, fs[i + k]? = some x := ⟨fs[i + k]'(by have := EN.out; have := EJ.out; omega), List.getElem?_eq_getElem _⟩
        obtain ⟨g, off, eA, hxc⟩ := HFILE.out j x (by rw [EJ.out]; exact hx)
        subst eA
        obtain ⟨y1, y2, y3⟩ := hxc wr hW0
        have hj0 : (0 : Int) ≤ (j : Int) := by omega
        have hjI : (j : Int) < (N0 : Int) := by omega
        have hwj : wrap64 ((j : Int) + 1) = ((j + 1 : Nat) : Int) := IntWalk.wrap64_in _ (by have := HL.out; have := EN.out; omega)
        have hwj2 : IntKind.i64.wrap ((j : Int) + 1) = ((j + 1 : Nat) : Int) := IntWalk.i64_in _ (by have := HL.out; have := EN.out; omega)
        have hbx := HX.out.kept HPP.out HKW2.out
        have c3 : wr.cell? ⟨B3, 0, none⟩ = some (.func (.yield l) #[] #[]) := obj_cell hbx.b3 0
        have hbd : Below wr.heap.size wr wr.drew := (Below.refl _ wr).drew
        have hs0 : w0.heap.size ≤ wr.heap.size := hW0.size
        have hle1 : (pre ++ outF fs os i k).length < N ∧ (pre ++ outF fs os i k ++ [x]).length + (os (i + k + 1)).length ≤ N := by
          have h1 := HN.out
          have h2 := HOO.out
          have h3 := (outF_mono fs os i (show k + 1 ≤ fs.length - i by have := EN.out; have := EJ.out; omega)).length_le
          rw [← h2, outF_succ hx] at h3
          simp only [List.length_append, List.length_cons, List.length_nil] at h3 ⊢
          omega
        have HLE1 := Lib.hid hle1
        have hyy : YieldAt Fence.wide (n - 1) Try.prog l #[.agg #[.string x.f.path, .int .i64 x.f.ver, .pointer x.q]] wr.drew _ := HYY.out (n - 1) _ x wr.drew (HPF0.out x (List.mem_of_getElem? hx)) (HJB.out _ _ _ HR.out.1 hbd) hle1.1
        obtain ⟨fn, tmps, assign, body, hyr, hR⟩ := hyy
        have hRD := Lib.hid (hR.mono (R' := fun e W' => ∃ ok, e = .returned (.bool ok) ∧ (ok = true → J (pre ++ outF fs os i k ++ [x]) W' ∧ Kp w0.heap.size p wr.drew W') ∧ (ok = false → Jx (pre ++ outF fs os i k ++ [x]) W')) (fun e W' h => h.elim (fun h => ⟨true, h.1, fun _ => h.2, fun h => by cases h⟩) (fun h => ⟨false, h.1, (fun h => by cases h), fun _ => h.2⟩)))
        have HXX := Lib.hid hx
        have HPF := Lib.hid (outF_mono fs os i (show k + 1 ≤ fs.length - i by have := EN.out; have := EJ.out; omega))
        rw [outF_succ hx] at HPF
        have HWD := Lib.hid ((Kp.of_below (n0 := w0.heap.size) (p := p) hbd hs0))
        have hj1 : i + k + 1 ≤ fs.length := by have := EN.out; have := EJ.out; omega
        have HJ1' := Lib.hid hj1
        have HKD := Lib.hid fun (m : Nat) (V : World) (hV : Below w0.heap.size w0 V) => (callsIn_wide (n := m)).2 (HKID.out (i + k + 1) hj1 V hV)
        have e1 : ((j : Int) + 1) = ((i + k + 1 : Nat) : Int) := by have := EJ.out; omega
        rw [← e1] at HKD
        have HWK2 := Lib.hid (HWK.out (i + k + 1) hj1)
        have HI1 := Lib.hid (show j + 1 ≤ N0 ∧ N0 - (j + 1) < N0 - j from ⟨hlt, by omega⟩)
        clear hx hxc hW0 hbx hbd hs0 hle1 hR hj1 e1 hk
        gi_upto_region 8 with fail
        gi_cut [49] from 31 (fun t wx => ∃ ok, t = .bool (!ok) ∧ (ok = true → J (pre ++ outF fs os i (k + 1)) wx ∧ Kp w0.heap.size p wr wx) ∧ (ok = false → ∃ q, q <+: outF fs os i (fs.length - i) ∧ Jx (pre ++ q) wx))
        case first =>
          refine wpIn_region_any (by kernel_rfl) ?_
          try (change wpAnyIn _ _ _ _ _ _ _ _ _ (World.drew _))
          refine wpAnyIn_take (i := 1) (v := ?v1) rfl rfl (by kernel_rfl) (by kernel_rfl) (by kernel_rfl) (fun _ _ _ h => h) ⟨Or.inl ⟨by rfl, ?hy1⟩, fun _ => rfl⟩ ?rest1
          case hy1 =>
            intro w
            go_simp
            try with_reducible rfl
          refine wpAnyIn_take (i := 2) (v := ?v2) rfl rfl (by kernel_rfl) (by kernel_rfl) (by kernel_rfl) (fun _ _ _ h => h) ⟨Or.inl ⟨by rfl, ?hy2⟩, fun _ => rfl⟩ ?rest2
          case hy2 =>
            intro w
            go_simp
            try with_reducible rfl
          refine wpAnyIn_take (i := 3) (v := ?v3) rfl rfl (by kernel_rfl) (by kernel_rfl) (by kernel_rfl) (fun _ _ _ h => h) ⟨Or.inl ⟨by rfl, ?hy3⟩, fun _ => rfl⟩ ?rest3
          case hy3 =>
            intro w
            go_simp
            try with_reducible rfl
          refine wpAnyIn_take (i := 5) (v := ?v4) rfl rfl (by kernel_rfl) (by kernel_rfl) (by kernel_rfl) (fun _ _ _ h => h) ⟨Or.inl ⟨by rfl, ?hy4⟩, fun _ => rfl⟩ ?rest4
          case hy4 =>
            intro w
            go_simp
            try with_reducible rfl
          refine wpAnyIn_ready (rs := [0, 4]) (by kernel_rfl) (by simp) ?_
          refine AllReadyIn.cons rfl (fun K hK => ?_) (AllReadyIn.cons rfl (fun K hK => ?_) AllReadyIn.nil)
          · go_simp
            refine hK _ _ ?_
            clear hK K
            refine wpAnyIn_ready (rs := [4]) (by kernel_rfl) (by simp) ?_
            refine AllReadyIn.cons rfl (fun K hK => ?_) AllReadyIn.nil
            · go_simp
              refine hK _ _ ?_
              clear hK K
              refine wpAnyIn_take (i := 6) (v := ?v5) rfl rfl (by kernel_rfl) (by kernel_rfl) (by kernel_rfl) (fun _ _ _ h => h) ⟨Or.inl ⟨by rfl, ?hy5⟩, fun _ => rfl⟩ ?rest5
              case hy5 =>
                intro w
                go_simp
                try with_reducible rfl
              refine wpAnyIn_ready (rs := [7]) (by kernel_rfl) (by simp) ?_
              refine AllReadyIn.cons rfl (fun K hK => ?_) AllReadyIn.nil
              · go_simp
                refine hK _ _ ?_
                clear hK K
                refine wpAnyIn_ready (rs := [8]) (by kernel_rfl) (by simp) ?_
                refine AllReadyIn.cons rfl (fun K hK => ?_) AllReadyIn.nil
                · go_simp
                  gi_wp2_with ((first | refine ⟨(fun h => by cases h), ?_⟩ | refine ⟨trivial, (fun h => by cases h), ?_⟩); (with_reducible refine hRD.out.mono ?_); rintro e w2 ⟨ok, rfl, hA⟩)
                  cases ok with
                  | false =>
                    try go_simp
                    try (refine hK _ _ ?_; clear hK K)
                    refine wpAnyIn_take (i := 9) (v := ?v6) rfl rfl (by kernel_rfl) (by kernel_rfl) (by kernel_rfl) (fun _ _ _ h => h) ⟨Or.inl ⟨by rfl, ?hy6⟩, fun _ => rfl⟩ ?rest6
                    case hy6 =>
                      intro w
                      go_simp
                      try with_reducible rfl
                    refine wpAnyIn_take (i := 10) (v := ?v7) rfl rfl (by kernel_rfl) (by kernel_rfl) (by kernel_rfl) (fun _ _ _ h => h) ⟨Or.inl ⟨by rfl, ?hy7⟩, fun _ => rfl⟩ ?rest7
                    case hy7 =>
                      intro w
                      go_simp
                      try with_reducible rfl
                    refine wpAnyIn_take (i := 11) (v := undef) rfl rfl (by kernel_rfl) (by kernel_rfl) (by kernel_rfl) (fun _ _ _ h => h) ⟨Or.inr ⟨by rfl, rfl⟩, fun _ => rfl⟩ ?_
                    refine wpAnyIn_take (i := 12) (v := undef) rfl rfl (by kernel_rfl) (by kernel_rfl) (by kernel_rfl) (fun _ _ _ h => h) ⟨Or.inr ⟨by rfl, rfl⟩, fun _ => rfl⟩ ?_
                    refine wpAnyIn_take (i := 13) (v := undef) rfl rfl (by kernel_rfl) (by kernel_rfl) (by kernel_rfl) (fun _ _ _ h => h) ⟨Or.inr ⟨by rfl, rfl⟩, fun _ => rfl⟩ ?_
                    refine wpAnyIn_take (i := 14) (v := undef) rfl rfl (by kernel_rfl) (by kernel_rfl) (by kernel_rfl) (fun _ _ _ h => h) ⟨Or.inr ⟨by rfl, rfl⟩, fun _ => rfl⟩ ?_
                    refine wpAnyIn_ready (rs := [15]) (by kernel_rfl) (by simp) ?_
                    refine AllReadyIn.cons rfl (fun K hK => ?_) AllReadyIn.nil
                    · go_simp
                      refine ⟨(by first | trivial | exact fun _ _ => trivial), ?_⟩
                      refine hK _ _ ?_
                      clear hK K
                      refine wpAnyIn_ready (rs := [16]) (by kernel_rfl) (by simp) ?_
                      refine AllReadyIn.cons rfl (fun K hK => ?_) AllReadyIn.nil
                      · go_simp
                        refine ⟨(by first | trivial | exact fun _ _ => trivial), ?_⟩
                        refine hK _ _ ?_
                        clear hK K
                        refine wpAnyIn_take (i := 17) (v := undef) rfl rfl (by kernel_rfl) (by kernel_rfl) (by kernel_rfl) (fun _ _ _ h => h) ⟨Or.inr ⟨by rfl, rfl⟩, fun _ => rfl⟩ ?_
                        refine wpAnyIn_take (i := 18) (v := ?v13) rfl rfl (by kernel_rfl) (by kernel_rfl) (by kernel_rfl) (fun _ _ _ h => h) ⟨Or.inl ⟨by rfl, ?hy13⟩, fun _ => rfl⟩ ?rest13
                        case hy13 =>
                          intro w
                          go_simp
                          try with_reducible rfl
                        refine wpAnyIn_done (by kernel_rfl) ?_ _
                        gi_wp2_with fail
                        gi_meet
                        case rel => exact ⟨false, rfl, (fun h => by cases h), fun _ => ⟨outF fs os i k ++ [x], (List.prefix_append_right_inj _).2 (by simp) |>.trans HPF.out, by rw [← List.append_assoc]; exact hA.2 (by first | rfl | trivial)⟩⟩
                  | true =>
                    have hjk := hA.1 rfl
                    have hkv := HKW2.out.trans (HWD.out.trans hjk.2)
                    have hbx2 := HX.out.kept HPP.out hkv
                    have d2 : w2.cell? ⟨B2, 0, none⟩ = some (.func (.func 46) #[] #[.pointer (some ⟨B1, 0, none⟩), .pointer (some ⟨B2, 0, none⟩), .pointer (some ⟨B3, 0, none⟩)]) := obj_cell hbx2.b2 0
                    have KD2 := Lib.hid (HKD.out (n - 1) w2 (HW0.out.trans hkv.1))
                    have WD2 := Lib.hid (HWK2.out (n - 1) (pre ++ outF fs os i k ++ [x]) w2 hkv hjk.1 HLE1.out.2)
                    have HWW := Lib.hid (HWD.out.trans hjk.2)
                    clear hA hjk hkv hbx2
                    try go_simp
                    try (refine hK _ _ ?_; clear hK K)
                    refine wpAnyIn_take (i := 9) (v := ?v14) rfl rfl (by kernel_rfl) (by kernel_rfl) (by kernel_rfl) (fun _ _ _ h => h) ⟨Or.inl ⟨by rfl, ?hy14⟩, fun _ => rfl⟩ ?rest14
                    case hy14 =>
                      intro w
                      go_simp
                      try with_reducible rfl
                    refine wpAnyIn_take (i := 10) (v := ?v15) rfl rfl (by kernel_rfl) (by kernel_rfl) (by kernel_rfl) (fun _ _ _ h => h) ⟨Or.inl ⟨by rfl, ?hy15⟩, fun _ => rfl⟩ ?rest15
                    case hy15 =>
                      intro w
                      go_simp
                      try with_reducible rfl
                    refine wpAnyIn_take (i := 12) (v := ?v16) rfl rfl (by kernel_rfl) (by kernel_rfl) (by kernel_rfl) (fun _ _ _ h => h) ⟨Or.inl ⟨by rfl, ?hy16⟩, fun _ => rfl⟩ ?rest16
                    case hy16 =>
                      intro w
                      go_simp
                      try with_reducible rfl
                    refine wpAnyIn_take (i := 13) (v := ?v17) rfl rfl (by kernel_rfl) (by kernel_rfl) (by kernel_rfl) (fun _ _ _ h => h) ⟨Or.inl ⟨by rfl, ?hy17⟩, fun _ => rfl⟩ ?rest17
                    case hy17 =>
                      intro w
                      go_simp
                      try with_reducible rfl
                    refine wpAnyIn_take (i := 14) (v := ?v18) rfl rfl (by kernel_rfl) (by kernel_rfl) (by kernel_rfl) (fun _ _ _ h => h) ⟨Or.inl ⟨by rfl, ?hy18⟩, fun _ => rfl⟩ ?rest18
                    case hy18 =>
                      intro w
                      go_simp
                      try with_reducible rfl
                    refine wpAnyIn_ready (rs := [11, 15]) (by kernel_rfl) (by simp) ?_
                    refine AllReadyIn.cons rfl (fun K hK => ?_) (AllReadyIn.cons rfl (fun K hK => ?_) AllReadyIn.nil)
                    · go_simp
                      refine hK _ _ ?_
                      clear hK K
                      refine wpAnyIn_ready (rs := [15]) (by kernel_rfl) (by simp) ?_
                      refine AllReadyIn.cons rfl (fun K hK => ?_) AllReadyIn.nil
                      · go_simp
                        gi_wp2_with ((refine ⟨trivial, (fun h => by cases h), ?_⟩; gi_at_call 32; (with_reducible refine KD2.out.mono ?_); rintro e w3 ⟨rfl, rfl⟩))
                        try (refine hK _ _ ?_; clear hK K)
                        refine wpAnyIn_ready (rs := [16]) (by kernel_rfl) (by simp) ?_
                        refine AllReadyIn.cons rfl (fun K hK => ?_) AllReadyIn.nil
                        · go_simp
                          gi_wp2_with ((refine ⟨trivial, (fun h => by cases h), ?_⟩; gi_at_call 46; (with_reducible refine WD2.out.mono ?_); rintro e w3 ⟨ok2, rfl, hB⟩))
                          try (refine hK _ _ ?_; clear hK K)
                          refine wpAnyIn_take (i := 17) (v := ?v19) rfl rfl (by kernel_rfl) (by kernel_rfl) (by kernel_rfl) (fun _ _ _ h => h) ⟨Or.inl ⟨by rfl, ?hy19⟩, fun _ => rfl⟩ ?rest19
                          case hy19 =>
                            intro w
                            go_simp
                            try with_reducible rfl
                          refine wpAnyIn_take (i := 18) (v := ?v20) rfl rfl (by kernel_rfl) (by kernel_rfl) (by kernel_rfl) (fun _ _ _ h => h) ⟨Or.inl ⟨by rfl, ?hy20⟩, fun _ => rfl⟩ ?rest20
                          case hy20 =>
                            intro w
                            go_simp
                            try with_reducible rfl
                          refine wpAnyIn_done (by kernel_rfl) ?_ _
                          gi_wp2_with fail
                          gi_meet
                          case rel => exact region_true HXX.out HPF.out HWW.out hB
                    · go_simp
                      gi_wp2_with ((refine ⟨trivial, (fun h => by cases h), ?_⟩; gi_at_call 32; (with_reducible refine KD2.out.mono ?_); rintro e w3 ⟨rfl, rfl⟩))
                      try (refine hK _ _ ?_; clear hK K)
                      refine wpAnyIn_ready (rs := [11]) (by kernel_rfl) (by simp) ?_
                      refine AllReadyIn.cons rfl (fun K hK => ?_) AllReadyIn.nil
                      · go_simp
                        refine hK _ _ ?_
                        clear hK K
                        refine wpAnyIn_ready (rs := [16]) (by kernel_rfl) (by simp) ?_
                        refine AllReadyIn.cons rfl (fun K hK => ?_) AllReadyIn.nil
                        · go_simp
                          gi_wp2_with ((refine ⟨trivial, (fun h => by cases h), ?_⟩; gi_at_call 46; (with_reducible refine WD2.out.mono ?_); rintro e w3 ⟨ok2, rfl, hB⟩))
                          try (refine hK _ _ ?_; clear hK K)
                          refine wpAnyIn_take (i := 17) (v := ?v21) rfl rfl (by kernel_rfl) (by kernel_rfl) (by kernel_rfl) (fun _ _ _ h => h) ⟨Or.inl ⟨by rfl, ?hy21⟩, fun _ => rfl⟩ ?rest21
                          case hy21 =>
                            intro w
                            go_simp
                            try with_reducible rfl
                          refine wpAnyIn_take (i := 18) (v := ?v22) rfl rfl (by kernel_rfl) (by kernel_rfl) (by kernel_rfl) (fun _ _ _ h => h) ⟨Or.inl ⟨by rfl, ?hy22⟩, fun _ => rfl⟩ ?rest22
                          case hy22 =>
                            intro w
                            go_simp
                            try with_reducible rfl
                          refine wpAnyIn_done (by kernel_rfl) ?_ _
                          gi_wp2_with fail
                          gi_meet
                          case rel => exact region_true HXX.out HPF.out HWW.out hB
          · go_simp
            refine hK _ _ ?_
            clear hK K
            refine wpAnyIn_take (i := 6) (v := ?v23) rfl rfl (by kernel_rfl) (by kernel_rfl) (by kernel_rfl) (fun _ _ _ h => h) ⟨Or.inl ⟨by rfl, ?hy23⟩, fun _ => rfl⟩ ?rest23
            case hy23 =>
              intro w
              go_simp
              try with_reducible rfl
            refine wpAnyIn_ready (rs := [0, 7]) (by kernel_rfl) (by simp) ?_
            refine AllReadyIn.cons rfl (fun K hK => ?_) (AllReadyIn.cons rfl (fun K hK => ?_) AllReadyIn.nil)
            · go_simp
              refine hK _ _ ?_
              clear hK K
              refine wpAnyIn_ready (rs := [7]) (by kernel_rfl) (by simp) ?_
              refine AllReadyIn.cons rfl (fun K hK => ?_) AllReadyIn.nil
              · go_simp
                refine hK _ _ ?_
                clear hK K
                refine wpAnyIn_ready (rs := [8]) (by kernel_rfl) (by simp) ?_
                refine AllReadyIn.cons rfl (fun K hK => ?_) AllReadyIn.nil
                · go_simp
                  gi_wp2_with ((first | refine ⟨(fun h => by cases h), ?_⟩ | refine ⟨trivial, (fun h => by cases h), ?_⟩); (with_reducible refine hRD.out.mono ?_); rintro e w2 ⟨ok, rfl, hA⟩)
                  cases ok with
                  | false =>
                    try go_simp
                    try (refine hK _ _ ?_; clear hK K)
                    refine wpAnyIn_take (i := 9) (v := ?v24) rfl rfl (by kernel_rfl) (by kernel_rfl) (by kernel_rfl) (fun _ _ _ h => h) ⟨Or.inl ⟨by rfl, ?hy24⟩, fun _ => rfl⟩ ?rest24
                    case hy24 =>
                      intro w
                      go_simp
                      try with_reducible rfl
                    refine wpAnyIn_take (i := 10) (v := ?v25) rfl rfl (by kernel_rfl) (by kernel_rfl) (by kernel_rfl) (fun _ _ _ h => h) ⟨Or.inl ⟨by rfl, ?hy25⟩, fun _ => rfl⟩ ?rest25
                    case hy25 =>
                      intro w
                      go_simp
                      try with_reducible rfl
                    refine wpAnyIn_take (i := 11) (v := undef) rfl rfl (by kernel_rfl) (by kernel_rfl) (by kernel_rfl) (fun _ _ _ h => h) ⟨Or.inr ⟨by rfl, rfl⟩, fun _ => rfl⟩ ?_
                    refine wpAnyIn_take (i := 12) (v := undef) rfl rfl (by kernel_rfl) (by kernel_rfl) (by kernel_rfl) (fun _ _ _ h => h) ⟨Or.inr ⟨by rfl, rfl⟩, fun _ => rfl⟩ ?_
                    refine wpAnyIn_take (i := 13) (v := undef) rfl rfl (by kernel_rfl) (by kernel_rfl) (by kernel_rfl) (fun _ _ _ h => h) ⟨Or.inr ⟨by rfl, rfl⟩, fun _ => rfl⟩ ?_
                    refine wpAnyIn_take (i := 14) (v := undef) rfl rfl (by kernel_rfl) (by kernel_rfl) (by kernel_rfl) (fun _ _ _ h => h) ⟨Or.inr ⟨by rfl, rfl⟩, fun _ => rfl⟩ ?_
                    refine wpAnyIn_ready (rs := [15]) (by kernel_rfl) (by simp) ?_
                    refine AllReadyIn.cons rfl (fun K hK => ?_) AllReadyIn.nil
                    · go_simp
                      refine ⟨(by first | trivial | exact fun _ _ => trivial), ?_⟩
                      refine hK _ _ ?_
                      clear hK K
                      refine wpAnyIn_ready (rs := [16]) (by kernel_rfl) (by simp) ?_
                      refine AllReadyIn.cons rfl (fun K hK => ?_) AllReadyIn.nil
                      · go_simp
                        refine ⟨(by first | trivial | exact fun _ _ => trivial), ?_⟩
                        refine hK _ _ ?_
                        clear hK K
                        refine wpAnyIn_take (i := 17) (v := undef) rfl rfl (by kernel_rfl) (by kernel_rfl) (by kernel_rfl) (fun _ _ _ h => h) ⟨Or.inr ⟨by rfl, rfl⟩, fun _ => rfl⟩ ?_
                        refine wpAnyIn_take (i := 18) (v := ?v31) rfl rfl (by kernel_rfl) (by kernel_rfl) (by kernel_rfl) (fun _ _ _ h => h) ⟨Or.inl ⟨by rfl, ?hy31⟩, fun _ => rfl⟩ ?rest31
                        case hy31 =>
                          intro w
                          go_simp
                          try with_reducible rfl
                        refine wpAnyIn_done (by kernel_rfl) ?_ _
                        gi_wp2_with fail
                        gi_meet
                        case rel => exact ⟨false, rfl, (fun h => by cases h), fun _ => ⟨outF fs os i k ++ [x], (List.prefix_append_right_inj _).2 (by simp) |>.trans HPF.out, by rw [← List.append_assoc]; exact hA.2 (by first | rfl | trivial)⟩⟩
                  | true =>
                    have hjk := hA.1 rfl
                    have hkv := HKW2.out.trans (HWD.out.trans hjk.2)
                    have hbx2 := HX.out.kept HPP.out hkv
                    have d2 : w2.cell? ⟨B2, 0, none⟩ = some (.func (.func 46) #[] #[.pointer (some ⟨B1, 0, none⟩), .pointer (some ⟨B2, 0, none⟩), .pointer (some ⟨B3, 0, none⟩)]) := obj_cell hbx2.b2 0
                    have KD2 := Lib.hid (HKD.out (n - 1) w2 (HW0.out.trans hkv.1))
                    have WD2 := Lib.hid (HWK2.out (n - 1) (pre ++ outF fs os i k ++ [x]) w2 hkv hjk.1 HLE1.out.2)
                    have HWW := Lib.hid (HWD.out.trans hjk.2)
                    clear hA hjk hkv hbx2
                    try go_simp
                    try (refine hK _ _ ?_; clear hK K)
                    refine wpAnyIn_take (i := 9) (v := ?v32) rfl rfl (by kernel_rfl) (by kernel_rfl) (by kernel_rfl) (fun _ _ _ h => h) ⟨Or.inl ⟨by rfl, ?hy32⟩, fun _ => rfl⟩ ?rest32
                    case hy32 =>
                      intro w
                      go_simp
                      try with_reducible rfl
                    refine wpAnyIn_take (i := 10) (v := ?v33) rfl rfl (by kernel_rfl) (by kernel_rfl) (by kernel_rfl) (fun _ _ _ h => h) ⟨Or.inl ⟨by rfl, ?hy33⟩, fun _ => rfl⟩ ?rest33
                    case hy33 =>
                      intro w
                      go_simp
                      try with_reducible rfl
                    refine wpAnyIn_take (i := 12) (v := ?v34) rfl rfl (by kernel_rfl) (by kernel_rfl) (by kernel_rfl) (fun _ _ _ h => h) ⟨Or.inl ⟨by rfl, ?hy34⟩, fun _ => rfl⟩ ?rest34
                    case hy34 =>
                      intro w
                      go_simp
                      try with_reducible rfl
                    refine wpAnyIn_take (i := 13) (v := ?v35) rfl rfl (by kernel_rfl) (by kernel_rfl) (by kernel_rfl) (fun _ _ _ h => h) ⟨Or.inl ⟨by rfl, ?hy35⟩, fun _ => rfl⟩ ?rest35
                    case hy35 =>
                      intro w
                      go_simp
                      try with_reducible rfl
                    refine wpAnyIn_take (i := 14) (v := ?v36) rfl rfl (by kernel_rfl) (by kernel_rfl) (by kernel_rfl) (fun _ _ _ h => h) ⟨Or.inl ⟨by rfl, ?hy36⟩, fun _ => rfl⟩ ?rest36
                    case hy36 =>
                      intro w
                      go_simp
                      try with_reducible rfl
                    refine wpAnyIn_ready (rs := [11, 15]) (by kernel_rfl) (by simp) ?_
                    refine AllReadyIn.cons rfl (fun K hK => ?_) (AllReadyIn.cons rfl (fun K hK => ?_) AllReadyIn.nil)
                    · go_simp
                      refine hK _ _ ?_
                      clear hK K
                      refine wpAnyIn_ready (rs := [15]) (by kernel_rfl) (by simp) ?_
                      refine AllReadyIn.cons rfl (fun K hK => ?_) AllReadyIn.nil
                      · go_simp
                        gi_wp2_with ((refine ⟨trivial, (fun h => by cases h), ?_⟩; gi_at_call 32; (with_reducible refine KD2.out.mono ?_); rintro e w3 ⟨rfl, rfl⟩))
                        try (refine hK _ _ ?_; clear hK K)
                        refine wpAnyIn_ready (rs := [16]) (by kernel_rfl) (by simp) ?_
                        refine AllReadyIn.cons rfl (fun K hK => ?_) AllReadyIn.nil
                        · go_simp
                          gi_wp2_with ((refine ⟨trivial, (fun h => by cases h), ?_⟩; gi_at_call 46; (with_reducible refine WD2.out.mono ?_); rintro e w3 ⟨ok2, rfl, hB⟩))
                          try (refine hK _ _ ?_; clear hK K)
                          refine wpAnyIn_take (i := 17) (v := ?v37) rfl rfl (by kernel_rfl) (by kernel_rfl) (by kernel_rfl) (fun _ _ _ h => h) ⟨Or.inl ⟨by rfl, ?hy37⟩, fun _ => rfl⟩ ?rest37
                          case hy37 =>
                            intro w
                            go_simp
                            try with_reducible rfl
                          refine wpAnyIn_take (i := 18) (v := ?v38) rfl rfl (by kernel_rfl) (by kernel_rfl) (by kernel_rfl) (fun _ _ _ h => h) ⟨Or.inl ⟨by rfl, ?hy38⟩, fun _ => rfl⟩ ?rest38
                          case hy38 =>
                            intro w
                            go_simp
                            try with_reducible rfl
                          refine wpAnyIn_done (by kernel_rfl) ?_ _
                          gi_wp2_with fail
                          gi_meet
                          case rel => exact region_true HXX.out HPF.out HWW.out hB
                    · go_simp
                      gi_wp2_with ((refine ⟨trivial, (fun h => by cases h), ?_⟩; gi_at_call 32; (with_reducible refine KD2.out.mono ?_); rintro e w3 ⟨rfl, rfl⟩))
                      try (refine hK _ _ ?_; clear hK K)
                      refine wpAnyIn_ready (rs := [11]) (by kernel_rfl) (by simp) ?_
                      refine AllReadyIn.cons rfl (fun K hK => ?_) AllReadyIn.nil
                      · go_simp
                        refine hK _ _ ?_
                        clear hK K
                        refine wpAnyIn_ready (rs := [16]) (by kernel_rfl) (by simp) ?_
                        refine AllReadyIn.cons rfl (fun K hK => ?_) AllReadyIn.nil
                        · go_simp
                          gi_wp2_with ((refine ⟨trivial, (fun h => by cases h), ?_⟩; gi_at_call 46; (with_reducible refine WD2.out.mono ?_); rintro e w3 ⟨ok2, rfl, hB⟩))
                          try (refine hK _ _ ?_; clear hK K)
                          refine wpAnyIn_take (i := 17) (v := ?v39) rfl rfl (by kernel_rfl) (by kernel_rfl) (by kernel_rfl) (fun _ _ _ h => h) ⟨Or.inl ⟨by rfl, ?hy39⟩, fun _ => rfl⟩ ?rest39
                          case hy39 =>
                            intro w
                            go_simp
                            try with_reducible rfl
                          refine wpAnyIn_take (i := 18) (v := ?v40) rfl rfl (by kernel_rfl) (by kernel_rfl) (by kernel_rfl) (fun _ _ _ h => h) ⟨Or.inl ⟨by rfl, ?hy40⟩, fun _ => rfl⟩ ?rest40
                          case hy40 =>
                            intro w
                            go_simp
                            try with_reducible rfl
                          refine wpAnyIn_done (by kernel_rfl) ?_ _
                          gi_wp2_with fail
                          gi_meet
                          case rel => exact region_true HXX.out HPF.out HWW.out hB
            · go_simp
              refine hK _ _ ?_
              clear hK K
              refine wpAnyIn_ready (rs := [0]) (by kernel_rfl) (by simp) ?_
              refine AllReadyIn.cons rfl (fun K hK => ?_) AllReadyIn.nil
              · go_simp
                refine hK _ _ ?_
                clear hK K
                refine wpAnyIn_ready (rs := [8]) (by kernel_rfl) (by simp) ?_
                refine AllReadyIn.cons rfl (fun K hK => ?_) AllReadyIn.nil
                · go_simp
                  gi_wp2_with ((first | refine ⟨(fun h => by cases h), ?_⟩ | refine ⟨trivial, (fun h => by cases h), ?_⟩); (with_reducible refine hRD.out.mono ?_); rintro e w2 ⟨ok, rfl, hA⟩)
                  cases ok with
                  | false =>
                    try go_simp
                    try (refine hK _ _ ?_; clear hK K)
                    refine wpAnyIn_take (i := 9) (v := ?v41) rfl rfl (by kernel_rfl) (by kernel_rfl) (by kernel_rfl) (fun _ _ _ h => h) ⟨Or.inl ⟨by rfl, ?hy41⟩, fun _ => rfl⟩ ?rest41
                    case hy41 =>
                      intro w
                      go_simp
                      try with_reducible rfl
                    refine wpAnyIn_take (i := 10) (v := ?v42) rfl rfl (by kernel_rfl) (by kernel_rfl) (by kernel_rfl) (fun _ _ _ h => h) ⟨Or.inl ⟨by rfl, ?hy42⟩, fun _ => rfl⟩ ?rest42
                    case hy42 =>
                      intro w
                      go_simp
                      try with_reducible rfl
                    refine wpAnyIn_take (i := 11) (v := undef) rfl rfl (by kernel_rfl) (by kernel_rfl) (by kernel_rfl) (fun _ _ _ h => h) ⟨Or.inr ⟨by rfl, rfl⟩, fun _ => rfl⟩ ?_
                    refine wpAnyIn_take (i := 12) (v := undef) rfl rfl (by kernel_rfl) (by kernel_rfl) (by kernel_rfl) (fun _ _ _ h => h) ⟨Or.inr ⟨by rfl, rfl⟩, fun _ => rfl⟩ ?_
                    refine wpAnyIn_take (i := 13) (v := undef) rfl rfl (by kernel_rfl) (by kernel_rfl) (by kernel_rfl) (fun _ _ _ h => h) ⟨Or.inr ⟨by rfl, rfl⟩, fun _ => rfl⟩ ?_
                    refine wpAnyIn_take (i := 14) (v := undef) rfl rfl (by kernel_rfl) (by kernel_rfl) (by kernel_rfl) (fun _ _ _ h => h) ⟨Or.inr ⟨by rfl, rfl⟩, fun _ => rfl⟩ ?_
                    refine wpAnyIn_ready (rs := [15]) (by kernel_rfl) (by simp) ?_
                    refine AllReadyIn.cons rfl (fun K hK => ?_) AllReadyIn.nil
                    · go_simp
                      refine ⟨(by first | trivial | exact fun _ _ => trivial), ?_⟩
                      refine hK _ _ ?_
                      clear hK K
                      refine wpAnyIn_ready (rs := [16]) (by kernel_rfl) (by simp) ?_
                      refine AllReadyIn.cons rfl (fun K hK => ?_) AllReadyIn.nil
                      · go_simp
                        refine ⟨(by first | trivial | exact fun _ _ => trivial), ?_⟩
                        refine hK _ _ ?_
                        clear hK K
                        refine wpAnyIn_take (i := 17) (v := undef) rfl rfl (by kernel_rfl) (by kernel_rfl) (by kernel_rfl) (fun _ _ _ h => h) ⟨Or.inr ⟨by rfl, rfl⟩, fun _ => rfl⟩ ?_
                        refine wpAnyIn_take (i := 18) (v := ?v48) rfl rfl (by kernel_rfl) (by kernel_rfl) (by kernel_rfl) (fun _ _ _ h => h) ⟨Or.inl ⟨by rfl, ?hy48⟩, fun _ => rfl⟩ ?rest48
                        case hy48 =>
                          intro w
                          go_simp
                          try with_reducible rfl
                        refine wpAnyIn_done (by kernel_rfl) ?_ _
                        gi_wp2_with fail
                        gi_meet
                        case rel => exact ⟨false, rfl, (fun h => by cases h), fun _ => ⟨outF fs os i k ++ [x], (List.prefix_append_right_inj _).2 (by simp) |>.trans HPF.out, by rw [← List.append_assoc]; exact hA.2 (by first | rfl | trivial)⟩⟩
                  | true =>
                    have hjk := hA.1 rfl
                    have hkv := HKW2.out.trans (HWD.out.trans hjk.2)
                    have hbx2 := HX.out.kept HPP.out hkv
                    have d2 : w2.cell? ⟨B2, 0, none⟩ = some (.func (.func 46) #[] #[.pointer (some ⟨B1, 0, none⟩), .pointer (some ⟨B2, 0, none⟩), .pointer (some ⟨B3, 0, none⟩)]) := obj_cell hbx2.b2 0
                    have KD2 := Lib.hid (HKD.out (n - 1) w2 (HW0.out.trans hkv.1))
                    have WD2 := Lib.hid (HWK2.out (n - 1) (pre ++ outF fs os i k ++ [x]) w2 hkv hjk.1 HLE1.out.2)
                    have HWW := Lib.hid (HWD.out.trans hjk.2)
                    clear hA hjk hkv hbx2
                    try go_simp
                    try (refine hK _ _ ?_; clear hK K)
                    refine wpAnyIn_take (i := 9) (v := ?v49) rfl rfl (by kernel_rfl) (by kernel_rfl) (by kernel_rfl) (fun _ _ _ h => h) ⟨Or.inl ⟨by rfl, ?hy49⟩, fun _ => rfl⟩ ?rest49
                    case hy49 =>
                      intro w
                      go_simp
                      try with_reducible rfl
                    refine wpAnyIn_take (i := 10) (v := ?v50) rfl rfl (by kernel_rfl) (by kernel_rfl) (by kernel_rfl) (fun _ _ _ h => h) ⟨Or.inl ⟨by rfl, ?hy50⟩, fun _ => rfl⟩ ?rest50
                    case hy50 =>
                      intro w
                      go_simp
                      try with_reducible rfl
                    refine wpAnyIn_take (i := 12) (v := ?v51) rfl rfl (by kernel_rfl) (by kernel_rfl) (by kernel_rfl) (fun _ _ _ h => h) ⟨Or.inl ⟨by rfl, ?hy51⟩, fun _ => rfl⟩ ?rest51
                    case hy51 =>
                      intro w
                      go_simp
                      try with_reducible rfl
                    refine wpAnyIn_take (i := 13) (v := ?v52) rfl rfl (by kernel_rfl) (by kernel_rfl) (by kernel_rfl) (fun _ _ _ h => h) ⟨Or.inl ⟨by rfl, ?hy52⟩, fun _ => rfl⟩ ?rest52
                    case hy52 =>
                      intro w
                      go_simp
                      try with_reducible rfl
                    refine wpAnyIn_take (i := 14) (v := ?v53) rfl rfl (by kernel_rfl) (by kernel_rfl) (by kernel_rfl) (fun _ _ _ h => h) ⟨Or.inl ⟨by rfl, ?hy53⟩, fun _ => rfl⟩ ?rest53
                    case hy53 =>
                      intro w
                      go_simp
                      try with_reducible rfl
                    refine wpAnyIn_ready (rs := [11, 15]) (by kernel_rfl) (by simp) ?_
                    refine AllReadyIn.cons rfl (fun K hK => ?_) (AllReadyIn.cons rfl (fun K hK => ?_) AllReadyIn.nil)
                    · go_simp
                      refine hK _ _ ?_
                      clear hK K
                      refine wpAnyIn_ready (rs := [15]) (by kernel_rfl) (by simp) ?_
                      refine AllReadyIn.cons rfl (fun K hK => ?_) AllReadyIn.nil
                      · go_simp
                        gi_wp2_with ((refine ⟨trivial, (fun h => by cases h), ?_⟩; gi_at_call 32; (with_reducible refine KD2.out.mono ?_); rintro e w3 ⟨rfl, rfl⟩))
                        try (refine hK _ _ ?_; clear hK K)
                        refine wpAnyIn_ready (rs := [16]) (by kernel_rfl) (by simp) ?_
                        refine AllReadyIn.cons rfl (fun K hK => ?_) AllReadyIn.nil
                        · go_simp
                          gi_wp2_with ((refine ⟨trivial, (fun h => by cases h), ?_⟩; gi_at_call 46; (with_reducible refine WD2.out.mono ?_); rintro e w3 ⟨ok2, rfl, hB⟩))
                          try (refine hK _ _ ?_; clear hK K)
                          refine wpAnyIn_take (i := 17) (v := ?v54) rfl rfl (by kernel_rfl) (by kernel_rfl) (by kernel_rfl) (fun _ _ _ h => h) ⟨Or.inl ⟨by rfl, ?hy54⟩, fun _ => rfl⟩ ?rest54
                          case hy54 =>
                            intro w
                            go_simp
                            try with_reducible rfl
                          refine wpAnyIn_take (i := 18) (v := ?v55) rfl rfl (by kernel_rfl) (by kernel_rfl) (by kernel_rfl) (fun _ _ _ h => h) ⟨Or.inl ⟨by rfl, ?hy55⟩, fun _ => rfl⟩ ?rest55
                          case hy55 =>
                            intro w
                            go_simp
                            try with_reducible rfl
                          refine wpAnyIn_done (by kernel_rfl) ?_ _
                          gi_wp2_with fail
                          gi_meet
                          case rel => exact region_true HXX.out HPF.out HWW.out hB
                    · go_simp
                      gi_wp2_with ((refine ⟨trivial, (fun h => by cases h), ?_⟩; gi_at_call 32; (with_reducible refine KD2.out.mono ?_); rintro e w3 ⟨rfl, rfl⟩))
                      try (refine hK _ _ ?_; clear hK K)
                      refine wpAnyIn_ready (rs := [11]) (by kernel_rfl) (by simp) ?_
                      refine AllReadyIn.cons rfl (fun K hK => ?_) AllReadyIn.nil
                      · go_simp
                        refine hK _ _ ?_
                        clear hK K
                        refine wpAnyIn_ready (rs := [16]) (by kernel_rfl) (by simp) ?_
                        refine AllReadyIn.cons rfl (fun K hK => ?_) AllReadyIn.nil
                        · go_simp
                          gi_wp2_with ((refine ⟨trivial, (fun h => by cases h), ?_⟩; gi_at_call 46; (with_reducible refine WD2.out.mono ?_); rintro e w3 ⟨ok2, rfl, hB⟩))
                          try (refine hK _ _ ?_; clear hK K)
                          refine wpAnyIn_take (i := 17) (v := ?v56) rfl rfl (by kernel_rfl) (by kernel_rfl) (by kernel_rfl) (fun _ _ _ h => h) ⟨Or.inl ⟨by rfl, ?hy56⟩, fun _ => rfl⟩ ?rest56
                          case hy56 =>
                            intro w
                            go_simp
                            try with_reducible rfl
                          refine wpAnyIn_take (i := 18) (v := ?v57) rfl rfl (by kernel_rfl) (by kernel_rfl) (by kernel_rfl) (fun _ _ _ h => h) ⟨Or.inl ⟨by rfl, ?hy57⟩, fun _ => rfl⟩ ?rest57
                          case hy57 =>
                            intro w
                            go_simp
                            try with_reducible rfl
                          refine wpAnyIn_done (by kernel_rfl) ?_ _
                          gi_wp2_with fail
                          gi_meet
                          case rel => exact region_true HXX.out HPF.out HWW.out hB
        obtain ⟨ok, rfl, hA⟩ := hcut
        cases ok with
        | false =>
          obtain ⟨q, hq, hx⟩ := hA.2 rfl
          have HQ := Lib.hid (And.intro hq hx)
          clear hA hq hx
          gi_wp2
          go_ret
          refine ⟨false, rfl, (fun h => by cases h), fun _ => ⟨q, ?_, HQ.out.2⟩⟩
          rw [HOO.out]
          exact HQ.out.1
        | true =>
          obtain ⟨hj2, hk2⟩ := hA.1 rfl
          have HJ3 := Lib.hid hj2
          have HK3 := Lib.hid (HR.out.2.trans hk2)
          clear hA hj2 hk2
          gi_wp2_with fail
          exact ⟨⟨k + 1, by rw [show ((j : Int) + 1) = ((i + (k + 1) : Nat) : Int) by have := EJ.out; omega], by have := HI1.out; have := EJ.out; omega, Lib.hid ⟨HJ3.out, HK3.out⟩⟩, HI1.out.2⟩
      · have hie : j = N0 := by omega
        subst hie
        have HFIN := Lib.hid (show J (pre ++ o) wr ∧ Kp w0.heap.size p W wr from by
          rw [HOO.out, show fs.length - i = k by have := EN.out; have := EJ.out; omega]
          exact HR.out)
        have gi : decide ((j : Int) < (j : Int)) = false := by simp
        clear hk hlt hW0
        gi_wp2
        go_ret
        exact ⟨true, rfl, fun _ => HFIN.out, fun h => by cases h⟩
end Go.Proofs.Ytcjbhjbjkfgphaa
