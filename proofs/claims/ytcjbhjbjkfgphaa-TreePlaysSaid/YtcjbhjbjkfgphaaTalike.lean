/-
  The law's own small functions over any package of trees: which one is picked, and whether a tree tells what a list does. Conditions: TreeApi and RopeFew hold of the packages; what is picked is one of at least one and at most 2^40.
  The arguments of the laws on trees: whole numbers, texts, acts of a script. Condition: the data are read as the arguments' reader reads them.
-/
import Derived.Test.YtcjbhjbjkfgphaaTapi
import Derived.ProofKit
import Derived.OpenShut
import Derived.Deep.Slices
import Derived.Lib.SmallJoins
namespace Go.Proofs.Ytcjbhjbjkfgphaa
open Go.RowKit Go.Deep

theorem i64_bounds {n : Int} (hn : (Lit.int .i64 n).wf = true) : -9223372036854775808 ≤ n ∧ n ≤ 9223372036854775807 := by
  have h : IntKind.i64.min ≤ n ∧ n ≤ IntKind.i64.max := by simpa [Lit.wf] using hn
  exact h
/-- Which of m things a raw number speaks of. -/
def pickN (n : Int) (m : Nat) : Nat := if n < 0 then (-(n + 1)).toNat % m else n.toNat % m
theorem pickN_lt {n : Int} {m : Nat} (hm : 0 < m) : pickN n m < m := by
  unfold pickN
  split <;> exact Nat.mod_lt _ hm
set_option maxRecDepth 100000 in
set_option maxHeartbeats 1000000 in
theorem pick_any (n : Int) (m : Nat) (w : World) (hn : (Lit.int .i64 n).wf = true) (hm : 0 < m) (hm2 : m ≤ 1099511627776) :
    Calls Try.prog 8 #[.int .i64 n, .int .i64 (m : Int)] w fun e w' => e = .returned (.int .i64 (pickN n m : Int)) ∧ w = w' := by
  obtain ⟨b1, b2⟩ := i64_bounds hn
  have hm0 : (0 : Int) < (m : Int) := by omega
  have hmz : ¬ (m : Int) = 0 := by omega
  have hmn : ¬ m = 0 := by omega
  by_cases h : n < 0
  · obtain ⟨c, ec⟩ : ∃ c : Nat, (c : Int) = -(n + 1) := ⟨(-(n + 1)).toNat, by omega⟩
    obtain ⟨d, ed⟩ : ∃ d : Int, d = n + 1 := ⟨_, rfl⟩
    have e : (pickN n m : Int) = (c : Int) % (m : Int) := by
      unfold pickN
      rw [if_pos h, ← ec, Int.toNat_natCast, Int.natCast_emod]
    have p1 : IntKind.i64.wrap (n + 1) = d := by rw [ed]; exact IntWalk.i64_in _ (by omega)
    have p2 : IntKind.i64.wrap (-d) = (c : Int) := by rw [show -d = (c : Int) by omega]; exact IntWalk.i64_in _ (by omega)
    have g1 : decide (n < 0) = true := decide_eq_true h
    have E := Lib.hid e
    clear e ec ed h
    go_enter Try.func8, Try.ntmps8
    go_wp2
    go_ret
    refine ⟨?_, rfl⟩
    rw [E.out]
    rfl
  · obtain ⟨c, rfl⟩ := Int.eq_ofNat_of_zero_le (by omega : 0 ≤ n)
    have e : (pickN (c : Int) m : Int) = (c : Int) % (m : Int) := by
      unfold pickN
      rw [if_neg h, Int.toNat_natCast, Int.natCast_emod]
    have g1 : decide ((c : Int) < 0) = false := decide_eq_false h
    have E := Lib.hid e
    clear e h
    go_enter Try.func8, Try.ntmps8
    go_wp2
    go_ret
    refine ⟨?_, rfl⟩
    rw [E.out]
    rfl

theorem getF_some : ∀ {fs : List FileM} {p : ByteArray} {i : Nat} {f : FileM}, findF fs p = some i → fs[i]? = some f → getF fs p = (f.text, f.ver, true)
  | [], p, i, f, h, _ => by cases h
  | g :: r, p, i, f, h, k => by
    unfold findF at h
    split at h
    · rename_i hp
      injection h with h
      subst h
      simp only [List.getElem?_cons_zero, Option.some.injEq] at k
      subst k
      simp [getF, hp]
    · rename_i hp
      cases hr : findF r p with
      | none => rw [hr] at h; cases h
      | some j =>
        rw [hr] at h
        simp only [Option.map_some, Option.some.injEq] at h
        subst h
        rw [← getF_some hr (by simpa using k)]
        simp [getF, hp]
theorem getF_none {fs : List FileM} {p : ByteArray} (h : findF fs p = none) : getF fs p = (⟨#[]⟩, 0, false) := by
  have : fs.find? (fun f => decide (f.path = p)) = none := by
    rw [List.find?_eq_none]
    intro f hf
    simpa using findF_none.1 h f hf
  simp only [getF, this]

section
variable {R : World → Option Addr → List UInt8 → Prop} {T : World → Option Addr → List FileM → Prop}
set_option maxRecDepth 100000 in
set_option maxHeartbeats 4000000 in
/-- A tree tells what its list does. -/
theorem alike_any (F : RopeFew R) (K : TreeApi R T) {w : World} {t : Option Addr} {fs : List FileM} {A : Option Addr} {n c : Nat} (ht : T w t fs) (hat : FilesAt w A fs) (hn : n = fs.length) (p : ByteArray) (hp : p.size ≤ 1099511627776) :
    Calls Try.prog 16 #[.pointer t, .slice A n c, .string p] w (TrueIs w) := by
  have hfew := K.few ht
  obtain ⟨X, v, b, eg⟩ : ∃ X v b, getF fs p = (X, v, b) := ⟨_, _, _, rfl⟩
  have HGET := Lib.hid (K.get_is p ht (by omega))
  have HFI := Lib.hid fun (W : World) (hb : Below w.heap.size w W) => ref_find fs A n c p W (hat.below hb) hn (by omega)
  have HFS := Lib.hid fun (W : World) (hb : Below w.heap.size w W) => K.files_is (K.below ht hb)
  have HSA := Lib.hid fun (W : World) (hb : Below w.heap.size w W) (B : Option Addr) (d : Nat) (hB : FilesAt W B fs) => ref_same fs B A n d c W hB (hat.below hb) hn (by omega)
  have HVE := Lib.hid fun (W : World) (hb : Below w.heap.size w W) => K.version_is p (K.below ht hb) (by omega)
  have HLE := Lib.hid fun (W : World) (hb : Below w.heap.size w W) => K.len_is (K.below ht hb)
  unfold GetIs at HGET
  rw [← hn] at HLE
  simp only [eg] at HGET HVE
  have s1 : (X.toList == X.toList) = true := by simp
  have HN := Lib.hid hn
  cases hf : findF fs p with
  | none =>
    have h3 := getF_none hf
    rw [eg] at h3
    simp only [Prod.mk.injEq] at h3
    obtain ⟨rfl, rfl, rfl⟩ := h3
    have e1 : findI fs p = -1 := by unfold findI; rw [hf]
    simp only [e1] at HFI
    clear e1 hf eg ht hat hn hp hfew
    go_enter Try.func16, Try.ntmps16
    go_wp2_with fail
    go_at_call 21
    (with_reducible refine HGET.out.mono ?_)
    rintro e w1 ⟨q, l, rfl, hr1, hl, hb1⟩
    have HR1 := Lib.hid hr1
    have HL1 := Lib.hid hl
    have HB1 := Lib.hid hb1
    clear hr1 hl hb1
    go_wp2_with fail
    go_at_call 33
    (with_reducible refine (HFI.out w1 HB1.out).mono ?_)
    rintro e w2 ⟨rfl, rfl⟩
    go_wp2_with fail
    go_at_call 18
    (with_reducible refine (HFS.out w1 HB1.out).mono ?_)
    rintro e w3 ⟨v3, rfl, ho3, hb3⟩
    obtain ⟨B, d, rfl, hB⟩ := ho3.form
    rw [← HN.out]
    have HB3 := Lib.hid (HB1.out.trans (hb3.mono HB1.out.size))
    have HSM := Lib.hid (HSA.out w3 HB3.out B d hB)
    have HR3 := Lib.hid (F.below HR1.out hb3)
    clear ho3 hB hb3
    go_wp2_with fail
    go_at_call 22
    (with_reducible refine HSM.out.mono ?_)
    rintro e w4 ⟨rfl, hb4⟩
    have HB4 := Lib.hid (HB3.out.trans (hb4.mono HB3.out.size))
    have HR4 := Lib.hid (F.below HR3.out hb4)
    clear hb4
    go_wp2_with fail
    go_at_call 24
    (with_reducible refine (HVE.out w4 HB4.out).mono ?_)
    rintro e w5 ⟨rfl, hb5⟩
    have HB5 := Lib.hid (HB4.out.trans (hb5.mono HB4.out.size))
    have hx := F.text_is (F.below HR4.out hb5)
    rw [← HL1.out] at hx
    have HX := Lib.hid hx
    clear hx hb5
    go_wp2_with fail
    go_at_call 23
    (with_reducible refine HX.out.mono ?_)
    rintro e w6 ⟨rfl, hb6⟩
    have HB6 := Lib.hid (HB5.out.trans (hb6.mono HB5.out.size))
    clear hb6
    go_wp2_with fail
    go_at_call 20
    (with_reducible refine (HLE.out w6 HB6.out).mono ?_)
    rintro e w7 ⟨rfl, hb7⟩
    have HB7 := Lib.hid (HB6.out.trans (hb7.mono HB6.out.size))
    clear hb7
    go_wp2_with fail
    go_ret
    exact ⟨rfl, HB7.out⟩
  | some i =>
    obtain ⟨f, hfi, hfp⟩ := findF_some hf
    have h3 := getF_some hf hfi
    rw [eg] at h3
    simp only [Prod.mk.injEq] at h3
    obtain ⟨rfl, rfl, rfl⟩ := h3
    have e1 : findI fs p = (i : Int) := by unfold findI; rw [hf]
    simp only [e1] at HFI
    obtain ⟨g, o, eA, hra⟩ := hat i f hfi
    have hi : i < n := by rw [hn]; exact (List.getElem?_eq_some_iff.1 hfi).1
    have hiI : (i : Int) < (n : Int) := by omega
    have hi0 : (0 : Int) ≤ (i : Int) := by omega
    have g1 : decide (0 ≤ (i : Int)) = true := decide_eq_true hi0
    have hc : ∀ W, Below w.heap.size w W → W.cell? ⟨g, o + i * 3 + 1, none⟩ = some (.int .i64 f.ver) ∧ W.cell? ⟨g, o + i * 3 + 2, none⟩ = some (.string f.text) := fun W hW => by
      have lt6 := World.block_lt_of_cell? w _ (hra 0 _ rfl)
      exact ⟨(hW.cell (p := ⟨g, o + i * 3 + 1, none⟩) lt6).trans (hra 1 _ rfl), (hW.cell (p := ⟨g, o + i * 3 + 2, none⟩) lt6).trans (hra 2 _ rfl)⟩
    have HC := Lib.hid hc
    subst eA
    clear e1 hf eg ht hat hn hp hfew hra hc hfi hfp
    go_enter Try.func16, Try.ntmps16
    go_wp2_with fail
    go_at_call 21
    (with_reducible refine HGET.out.mono ?_)
    rintro e w1 ⟨q, l, rfl, hr1, hl, hb1⟩
    have HR1 := Lib.hid hr1
    have HL1 := Lib.hid hl
    have HB1 := Lib.hid hb1
    clear hr1 hl hb1
    go_wp2_with fail
    go_at_call 33
    (with_reducible refine (HFI.out w1 HB1.out).mono ?_)
    rintro e w2 ⟨rfl, rfl⟩
    obtain ⟨c1, c2⟩ := HC.out w1 HB1.out
    go_wp2_with fail
    go_at_call 18
    (with_reducible refine (HFS.out w1 HB1.out).mono ?_)
    rintro e w3 ⟨v3, rfl, ho3, hb3⟩
    obtain ⟨B, d, rfl, hB⟩ := ho3.form
    rw [← HN.out]
    have HB3 := Lib.hid (HB1.out.trans (hb3.mono HB1.out.size))
    have HSM := Lib.hid (HSA.out w3 HB3.out B d hB)
    have HR3 := Lib.hid (F.below HR1.out hb3)
    clear ho3 hB hb3
    go_wp2_with fail
    go_at_call 22
    (with_reducible refine HSM.out.mono ?_)
    rintro e w4 ⟨rfl, hb4⟩
    have HB4 := Lib.hid (HB3.out.trans (hb4.mono HB3.out.size))
    have HR4 := Lib.hid (F.below HR3.out hb4)
    clear hb4
    go_wp2_with fail
    go_at_call 24
    (with_reducible refine (HVE.out w4 HB4.out).mono ?_)
    rintro e w5 ⟨rfl, hb5⟩
    have HB5 := Lib.hid (HB4.out.trans (hb5.mono HB4.out.size))
    have hx := F.text_is (F.below HR4.out hb5)
    rw [← HL1.out] at hx
    have HX := Lib.hid hx
    clear hx hb5
    go_wp2_with fail
    go_at_call 23
    (with_reducible refine HX.out.mono ?_)
    rintro e w6 ⟨rfl, hb6⟩
    have HB6 := Lib.hid (HB5.out.trans (hb6.mono HB5.out.size))
    clear hb6
    go_wp2_with fail
    go_at_call 20
    (with_reducible refine (HLE.out w6 HB6.out).mono ?_)
    rintro e w7 ⟨rfl, hb7⟩
    have HB7 := Lib.hid (HB6.out.trans (hb7.mono HB6.out.size))
    clear hb7
    go_wp2_with fail
    go_ret
    exact ⟨rfl, HB7.out⟩
end
end Go.Proofs.Ytcjbhjbjkfgphaa

namespace Go.Proofs.Ytcjbhjbjkfgphaa
open Go.ChangeShapes Go.WideShapes Go.ChangeAt Go.ChangeMaps Go.RowKit Go.Deep Go.Maps

section
variable {H : Type} {enc : TypeId × Value → H} {w : World} {base : Nat} {held : Bool}
theorem open_num {fuel : Nat} {v : Value} {x : DataW H × List MemPlace} (h : DataW.trod enc Try.prog w base (fun _ => true) held fuel 3 [v] = some x) : ∃ n, v = .int .i64 n ∧ (Lit.int .i64 n).wf = true := by
  obtain ⟨k, e, _, hk⟩ := DataW.trod_int Try.underlying3 h
  exact ⟨k, by simpa using e, hk⟩
set_option maxRecDepth 100000 in
theorem cells_int : Try.prog.cellsOf 3 = 1 := by kernel_rfl
set_option maxRecDepth 100000 in
theorem cells_string : Try.prog.cellsOf 9 = 1 := by kernel_rfl
theorem open_txt {fuel : Nat} {v : Value} {x : DataW H × List MemPlace} (h : DataW.trod enc Try.prog w base (fun _ => true) held fuel 9 [v] = some x) : ∃ s, v = .string s ∧ s.size ≤ maxLen := by
  obtain ⟨s, e, _, hm⟩ := DataW.trod_string Try.underlying9 h
  exact ⟨s, by simpa using e, hm⟩
theorem okWide_str {P : Program} {r : Reach} {b0 : Nat} {t : TypeId} {fs : Array Field} {v : Value} (ht : P.underlying t = some (.struct fs)) (h : Value.okWide P w r b0 t v) : ∃ cs, v = .agg cs ∧ cs.size = P.cellsOf t := by
  simp only [Value.okWide, ht] at h
  obtain ⟨cs, h1, h2, _⟩ := h
  exact ⟨cs, h1, h2⟩
end
/-! ### the acts -/
structure ActM where
  kind : Int
  i : Int
  ver : Int
  path : ByteArray
  s : ByteArray
instance : Inhabited ActM := ⟨⟨0, 0, 0, ⟨#[]⟩, ⟨#[]⟩⟩⟩
def ActM.cells (o : ActM) : List Value := [.int .i64 o.kind, .int .i64 o.i, .int .i64 o.ver, .string o.path, .string o.s]
def ActM.good (o : ActM) : Prop := (Lit.int .i64 o.kind).wf = true ∧ (Lit.int .i64 o.i).wf = true ∧ (Lit.int .i64 o.ver).wf = true ∧ o.path.size ≤ maxLen ∧ o.s.size ≤ maxLen
def ActsAt (w : World) (S : Option Addr) (os : List ActM) : Prop := ∀ i o, os[i]? = some o → o.good ∧ ∃ g off, S = some ⟨g, off, none⟩ ∧ w.rangeAt g (off + i * 5) o.cells
section
variable {H : Type} {enc : TypeId × Value → H} {w : World} {base : Nat} {held : Bool}
theorem cells_act : Try.prog.cellsOf 27 = 5 := by kernel_rfl
set_option maxRecDepth 100000 in
theorem open_act {fuel : Nat} {cs : List Value} {x : DataW H × List MemPlace} (h : DataW.trod enc Try.prog w base (fun _ => true) held fuel 27 cs = some x) : ∃ o : ActM, cs = o.cells ∧ o.good := by
  obtain ⟨xs, n, _, _, hl, hx, hf⟩ := DataW.trod_struct Try.underlying27 h
  rw [cells_act] at hl
  match cs, hl with
  | [c0, c1, c2, c3, c4], _ =>
    match xs, hx with
    | [x0, x1, x2, x3, x4], _ =>
      have f0 : DataW.trod enc Try.prog w base (fun _ => true) held n 3 (([c0, c1, c2, c3, c4].drop 0).take (Try.prog.cellsOf 3)) = some x0 := hf 0 _ rfl
      rw [cells_int] at f0
      have f1 : DataW.trod enc Try.prog w base (fun _ => true) held n 3 (([c0, c1, c2, c3, c4].drop 1).take (Try.prog.cellsOf 3)) = some x1 := hf 1 _ rfl
      rw [cells_int] at f1
      have f2 : DataW.trod enc Try.prog w base (fun _ => true) held n 3 (([c0, c1, c2, c3, c4].drop 2).take (Try.prog.cellsOf 3)) = some x2 := hf 2 _ rfl
      rw [cells_int] at f2
      have f3 : DataW.trod enc Try.prog w base (fun _ => true) held n 9 (([c0, c1, c2, c3, c4].drop 3).take (Try.prog.cellsOf 9)) = some x3 := hf 3 _ rfl
      rw [cells_string] at f3
      have f4 : DataW.trod enc Try.prog w base (fun _ => true) held n 9 (([c0, c1, c2, c3, c4].drop 4).take (Try.prog.cellsOf 9)) = some x4 := hf 4 _ rfl
      rw [cells_string] at f4
      obtain ⟨k0, rfl, w0⟩ := open_num (x := x0) f0
      obtain ⟨k1, rfl, w1⟩ := open_num (x := x1) f1
      obtain ⟨k2, rfl, w2⟩ := open_num (x := x2) f2
      obtain ⟨k3, rfl, w3⟩ := open_txt (x := x3) f3
      obtain ⟨k4, rfl, w4⟩ := open_txt (x := x4) f4
      exact ⟨⟨k0, k1, k2, k3, k4⟩, rfl, w0, w1, w2, w3, w4⟩
/-- An address that a cell is read at names no spot. -/
theorem plain_addr {a : Addr} {i : Nat} {v : Value} (h : ∀ j, j ≤ i → (w.cell? (a.add j)).isSome = true) (hv : w.cell? (a.add i) = some v) : ∃ g o, a = ⟨g, o, none⟩ ∧ w.cell? ⟨g, o + i, none⟩ = some v := by
  obtain ⟨g, o, sp⟩ := a
  have h0 := h 0 (Nat.zero_le _)
  have e0 : (⟨g, o, sp⟩ : Addr).add 0 = ⟨g, o, sp⟩ := rfl
  rw [e0] at h0
  cases sp with
  | none =>
    rw [Addr.add_mid] at hv
    exact ⟨g, o, rfl, hv⟩
  | some s =>
    unfold World.cell? at h0
    split at h0 <;> simp at h0
set_option maxRecDepth 100000 in
theorem open_acts {r : Reach} {b0 : Nat} {v : Value} {d : DataW H} {p : List MemPlace} (hv : Value.okWide Try.prog w r b0 22 v) (h : DataW.Trod enc Try.prog w base (fun _ => true) held 22 v d p) :
    ∃ S os cap, v = .slice S os.length cap ∧ ActsAt w S os ∧ os.length ≤ maxLen := by
  obtain ⟨a0, len0, cap0, rfl⟩ := okWide_slice Try.underlying22 hv
  obtain ⟨fuel, hf⟩ := h
  rcases open_slice Try.underlying22 hf with ⟨hcs, _⟩ | ⟨a, len, cap, m, n, D, Pl, hcs, _, hl, hm, hmm, _, hi⟩
  · refine ⟨none, [], 0, by simpa [Value.cells] using hcs, fun i o ho => by simp at ho, by unfold maxLen; simp⟩
  · have hmm2 : m = cap := by simpa using hmm
    subst hmm2
    clear hmm
    rw [cells_act] at hi
    have key : ∀ i, i < m → ∃ o : ActM, o.good ∧ w.cells? base (a.add (i * 5)) 5 = some o.cells := fun i him => by
      obtain ⟨cs, h1, h2⟩ := hi i him
      obtain ⟨o, rfl, hg⟩ := open_act h2
      exact ⟨o, hg, h1⟩
    obtain ⟨F, hF⟩ := choose_lt key
    have hv : Value.slice a0 len0 cap0 = .slice (some a) len m := by simpa [Value.cells] using hcs
    refine ⟨some a, (List.range len).map F, m, by rw [hv]; simp, ?_, by simp; omega⟩
    intro i o ho
    rw [List.getElem?_map] at ho
    by_cases hil : i < len
    · rw [List.getElem?_range hil] at ho
      simp only [Option.map_some, Option.some.injEq] at ho
      obtain ⟨hg, hc⟩ := hF i (by omega)
      rw [ho] at hg hc
      obtain ⟨_, hcl, hat⟩ := World.cells?_some hc
      obtain ⟨_, _, hat0⟩ := World.cells?_some (hF 0 (by omega)).2
      have h00 := hat0 (i := 0) (by omega)
      obtain ⟨g, off, ha, _⟩ := plain_addr (w := w) (a := a) (i := 0) (v := .int .i64 (F 0).kind) (fun j hj => by
        obtain rfl : j = 0 := by omega
        have : w.cell? ((a.add (0 * 5)).add 0) = _ := h00
        simp only [Nat.zero_mul] at this
        have e0 : (a.add 0).add 0 = a.add 0 := rfl
        rw [e0] at this
        rw [this]; rfl) (by
        have : w.cell? ((a.add (0 * 5)).add 0) = _ := h00
        simp only [Nat.zero_mul] at this
        exact this)
      subst ha
      refine ⟨hg, g, off, rfl, fun j u hu => ?_⟩
      have hj : j < 5 := by have := (List.getElem?_eq_some_iff.1 hu).1; simpa [ActM.cells] using this
      have := hat (i := j) hj
      rw [Addr.add_mid, Addr.add_mid] at this
      rw [this, hu]
    · rw [List.getElem?_eq_none (by simp; omega)] at ho
      cases ho
set_option maxRecDepth 100000 in
/-- One act, handed over itself. -/
theorem open_act_arg {r : Reach} {b0 : Nat} {v : Value} {d : DataW H} {p : List MemPlace} (hv : Value.okWide Try.prog w r b0 27 v) (h : DataW.Trod enc Try.prog w base (fun _ => true) held 27 v d p) :
    ∃ o : ActM, v = .agg o.cells.toArray ∧ o.good := by
  obtain ⟨cs, rfl, hs⟩ := okWide_str Try.underlying27 hv
  obtain ⟨fuel, hf⟩ := h
  obtain ⟨o, ho, hg⟩ := open_act hf
  refine ⟨o, ?_, hg⟩
  have : cs.toList = o.cells := by simpa [Value.cells] using ho
  rw [← this]
end
end Go.Proofs.Ytcjbhjbjkfgphaa
