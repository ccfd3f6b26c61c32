/-
  The law's own small functions over any package of trees: which one is picked, and whether a tree tells what a list does. Conditions: TreeApi and RopeFew hold of the packages; what is picked is one of at least one and at most 2^40.
-/
import Derived.Test.YtmcohbppeabmgaaTapi
namespace Go.Proofs.Ytmcohbppeabmgaa
open Go.RowKit Go.Deep

theorem i64_bounds {n : Int} (hn : (Lit.int .i64 n).wf = true) : -9223372036854775808 ≤ n ∧ n ≤ 9223372036854775807 := by
  have h : IntKind.i64.min ≤ n ∧ n ≤ IntKind.i64.max := by simpa [Lit.wf] using hn
  exact h
/-- Which of m things a raw number speaks of. -/
def pickN (n : Int) (m : Nat) : Nat := if n < 0 then (-(n + 1)).toNat % m else n.toNat % m
theorem pickN_lt {n : Int} {m : Nat} (hm : 0 < m) : pickN n m < m := by
  unfold pickN
  split <;> exact Nat.mod_lt _ hm
set_option maxRecDepth 100000 in
set_option maxHeartbeats 1000000 in
theorem pick_any (n : Int) (m : Nat) (w : World) (hn : (Lit.int .i64 n).wf = true) (hm : 0 < m) (hm2 : m ≤ 1099511627776) :
    Calls Try.prog 9 #[.int .i64 n, .int .i64 (m : Int)] w fun e w' => e = .returned (.int .i64 (pickN n m : Int)) ∧ w = w' := by
  obtain ⟨b1, b2⟩ := i64_bounds hn
  have hm0 : (0 : Int) < (m : Int) := by omega
  have hmz : ¬ (m : Int) = 0 := by omega
  have hmn : ¬ m = 0 := by omega
  by_cases h : n < 0
  · obtain ⟨c, ec⟩ : ∃ c : Nat, (c : Int) = -(n + 1) := ⟨(-(n + 1)).toNat, by omega⟩
    obtain ⟨d, ed⟩ : ∃ d : Int, d = n + 1 := ⟨_, rfl⟩
    have e : (pickN n m : Int) = (c : Int) % (m : Int) := by
      unfold pickN
      rw [if_pos h, ← ec, Int.toNat_natCast, Int.natCast_emod]
    have p1 : IntKind.i64.wrap (n + 1) = d := by rw [ed]; exact IntWalk.i64_in _ (by omega)
    have p2 : IntKind.i64.wrap (-d) = (c : Int) := by rw [show -d = (c : Int) by omega]; exact IntWalk.i64_in _ (by omega)
    have g1 : decide (n < 0) = true := decide_eq_true h
    have E := Lib.hid e
    clear e ec ed h
    go_enter Try.func9, Try.ntmps9
    go_wp2
    go_ret
    refine ⟨?_, rfl⟩
    rw [E.out]
    rfl
  · obtain ⟨c, rfl⟩ := Int.eq_ofNat_of_zero_le (by omega : 0 ≤ n)
    have e : (pickN (c : Int) m : Int) = (c : Int) % (m : Int) := by
      unfold pickN
      rw [if_neg h, Int.toNat_natCast, Int.natCast_emod]
    have g1 : decide ((c : Int) < 0) = false := decide_eq_false h
    have E := Lib.hid e
    clear e h
    go_enter Try.func9, Try.ntmps9
    go_wp2
    go_ret
    refine ⟨?_, rfl⟩
    rw [E.out]
    rfl

theorem getF_some : ∀ {fs : List FileM} {p : ByteArray} {i : Nat} {f : FileM}, findF fs p = some i → fs[i]? = some f → getF fs p = (f.text, f.ver, true)
  | [], p, i, f, h, _ => by cases h
  | g :: r, p, i, f, h, k => by
    unfold findF at h
    split at h
    · rename_i hp
      injection h with h
      subst h
      simp only [List.getElem?_cons_zero, Option.some.injEq] at k
      subst k
      simp [getF, hp]
    · rename_i hp
      cases hr : findF r p with
      | none => rw [hr] at h; cases h
      | some j =>
        rw [hr] at h
        simp only [Option.map_some, Option.some.injEq] at h
        subst h
        rw [← getF_some hr (by simpa using k)]
        simp [getF, hp]
theorem getF_none {fs : List FileM} {p : ByteArray} (h : findF fs p = none) : getF fs p = (⟨#[]⟩, 0, false) := by
  have : fs.find? (fun f => decide (f.path = p)) = none := by
    rw [List.find?_eq_none]
    intro f hf
    simpa using findF_none.1 h f hf
  simp only [getF, this]

section
variable {R : World → Option Addr → List UInt8 → Prop} {T : World → Option Addr → List FileM → Prop}
set_option maxRecDepth 100000 in
set_option maxHeartbeats 4000000 in
/-- A tree tells what its list does. -/
theorem alike_any (F : RopeFew R) (K : TreeApi R T) {w : World} {t : Option Addr} {fs : List FileM} {A : Option Addr} {n c : Nat} (ht : T w t fs) (hat : FilesAt w A fs) (hn : n = fs.length) (p : ByteArray) (hp : p.size ≤ 1099511627776) :
    Calls Try.prog 17 #[.pointer t, .slice A n c, .string p] w (TrueIs w) := by
  have hfew := K.few ht
  obtain ⟨X, v, b, eg⟩ : ∃ X v b, getF fs p = (X, v, b) := ⟨_, _, _, rfl⟩
  have HGET := Lib.hid (K.get_is p ht (by omega))
  have HFI := Lib.hid fun (W : World) (hb : Below w.heap.size w W) => ref_find fs A n c p W (hat.below hb) hn (by omega)
  have HFS := Lib.hid fun (W : World) (hb : Below w.heap.size w W) => K.files_is (K.below ht hb)
  have HSA := Lib.hid fun (W : World) (hb : Below w.heap.size w W) (B : Option Addr) (d : Nat) (hB : FilesAt W B fs) => ref_same fs B A n d c W hB (hat.below hb) hn (by omega)
  have HVE := Lib.hid fun (W : World) (hb : Below w.heap.size w W) => K.version_is p (K.below ht hb) (by omega)
  have HLE := Lib.hid fun (W : World) (hb : Below w.heap.size w W) => K.len_is (K.below ht hb)
  unfold GetIs at HGET
  rw [← hn] at HLE
  simp only [eg] at HGET HVE
  have s1 : (X.toList == X.toList) = true := by simp
  have HN := Lib.hid hn
  cases hf : findF fs p with
  | none =>
    have h3 := getF_none hf
    rw [eg] at h3
    simp only [Prod.mk.injEq] at h3
    obtain ⟨rfl, rfl, rfl⟩ := h3
    have e1 : findI fs p = -1 := by unfold findI; rw [hf]
    simp only [e1] at HFI
    clear e1 hf eg ht hat hn hp hfew
    go_enter Try.func17, Try.ntmps17
    go_wp2_with fail
    go_at_call 23
    (with_reducible refine HGET.out.mono ?_)
    rintro e w1 ⟨q, l, rfl, hr1, hl, hb1⟩
    have HR1 := Lib.hid hr1
    have HL1 := Lib.hid hl
    have HB1 := Lib.hid hb1
    clear hr1 hl hb1
    go_wp2_with fail
    go_at_call 35
    (with_reducible refine (HFI.out w1 HB1.out).mono ?_)
    rintro e w2 ⟨rfl, rfl⟩
    go_wp2_with fail
    go_at_call 19
    (with_reducible refine (HFS.out w1 HB1.out).mono ?_)
    rintro e w3 ⟨v3, rfl, ho3, hb3⟩
    obtain ⟨B, d, rfl, hB⟩ := ho3.form
    rw [← HN.out]
    have HB3 := Lib.hid (HB1.out.trans (hb3.mono HB1.out.size))
    have HSM := Lib.hid (HSA.out w3 HB3.out B d hB)
    have HR3 := Lib.hid (F.below HR1.out hb3)
    clear ho3 hB hb3
    go_wp2_with fail
    go_at_call 24
    (with_reducible refine HSM.out.mono ?_)
    rintro e w4 ⟨rfl, hb4⟩
    have HB4 := Lib.hid (HB3.out.trans (hb4.mono HB3.out.size))
    have HR4 := Lib.hid (F.below HR3.out hb4)
    clear hb4
    go_wp2_with fail
    go_at_call 26
    (with_reducible refine (HVE.out w4 HB4.out).mono ?_)
    rintro e w5 ⟨rfl, hb5⟩
    have HB5 := Lib.hid (HB4.out.trans (hb5.mono HB4.out.size))
    have hx := F.text_is (F.below HR4.out hb5)
    rw [← HL1.out] at hx
    have HX := Lib.hid hx
    clear hx hb5
    go_wp2_with fail
    go_at_call 25
    (with_reducible refine HX.out.mono ?_)
    rintro e w6 ⟨rfl, hb6⟩
    have HB6 := Lib.hid (HB5.out.trans (hb6.mono HB5.out.size))
    clear hb6
    go_wp2_with fail
    go_at_call 21
    (with_reducible refine (HLE.out w6 HB6.out).mono ?_)
    rintro e w7 ⟨rfl, hb7⟩
    have HB7 := Lib.hid (HB6.out.trans (hb7.mono HB6.out.size))
    clear hb7
    go_wp2_with fail
    go_ret
    exact ⟨rfl, HB7.out⟩
  | some i =>
    obtain ⟨f, hfi, hfp⟩ := findF_some hf
    have h3 := getF_some hf hfi
    rw [eg] at h3
    simp only [Prod.mk.injEq] at h3
    obtain ⟨rfl, rfl, rfl⟩ := h3
    have e1 : findI fs p = (i : Int) := by unfold findI; rw [hf]
    simp only [e1] at HFI
    obtain ⟨g, o, eA, hra⟩ := hat i f hfi
    have hi : i < n := by rw [hn]; exact (List.getElem?_eq_some_iff.1 hfi).1
    have hiI : (i : Int) < (n : Int) := by omega
    have hi0 : (0 : Int) ≤ (i : Int) := by omega
    have g1 : decide (0 ≤ (i : Int)) = true := decide_eq_true hi0
    have hc : ∀ W, Below w.heap.size w W → W.cell? ⟨g, o + i * 3 + 1, none⟩ = some (.int .i64 f.ver) ∧ W.cell? ⟨g, o + i * 3 + 2, none⟩ = some (.string f.text) := fun W hW => by
      have lt6 := World.block_lt_of_cell? w _ (hra 0 _ rfl)
      exact ⟨(hW.cell (p := ⟨g, o + i * 3 + 1, none⟩) lt6).trans (hra 1 _ rfl), (hW.cell (p := ⟨g, o + i * 3 + 2, none⟩) lt6).trans (hra 2 _ rfl)⟩
    have HC := Lib.hid hc
    subst eA
    clear e1 hf eg ht hat hn hp hfew hra hc hfi hfp
    go_enter Try.func17, Try.ntmps17
    go_wp2_with fail
    go_at_call 23
    (with_reducible refine HGET.out.mono ?_)
    rintro e w1 ⟨q, l, rfl, hr1, hl, hb1⟩
    have HR1 := Lib.hid hr1
    have HL1 := Lib.hid hl
    have HB1 := Lib.hid hb1
    clear hr1 hl hb1
    go_wp2_with fail
    go_at_call 35
    (with_reducible refine (HFI.out w1 HB1.out).mono ?_)
    rintro e w2 ⟨rfl, rfl⟩
    obtain ⟨c1, c2⟩ := HC.out w1 HB1.out
    go_wp2_with fail
    go_at_call 19
    (with_reducible refine (HFS.out w1 HB1.out).mono ?_)
    rintro e w3 ⟨v3, rfl, ho3, hb3⟩
    obtain ⟨B, d, rfl, hB⟩ := ho3.form
    rw [← HN.out]
    have HB3 := Lib.hid (HB1.out.trans (hb3.mono HB1.out.size))
    have HSM := Lib.hid (HSA.out w3 HB3.out B d hB)
    have HR3 := Lib.hid (F.below HR1.out hb3)
    clear ho3 hB hb3
    go_wp2_with fail
    go_at_call 24
    (with_reducible refine HSM.out.mono ?_)
    rintro e w4 ⟨rfl, hb4⟩
    have HB4 := Lib.hid (HB3.out.trans (hb4.mono HB3.out.size))
    have HR4 := Lib.hid (F.below HR3.out hb4)
    clear hb4
    go_wp2_with fail
    go_at_call 26
    (with_reducible refine (HVE.out w4 HB4.out).mono ?_)
    rintro e w5 ⟨rfl, hb5⟩
    have HB5 := Lib.hid (HB4.out.trans (hb5.mono HB4.out.size))
    have hx := F.text_is (F.below HR4.out hb5)
    rw [← HL1.out] at hx
    have HX := Lib.hid hx
    clear hx hb5
    go_wp2_with fail
    go_at_call 25
    (with_reducible refine HX.out.mono ?_)
    rintro e w6 ⟨rfl, hb6⟩
    have HB6 := Lib.hid (HB5.out.trans (hb6.mono HB5.out.size))
    clear hb6
    go_wp2_with fail
    go_at_call 21
    (with_reducible refine (HLE.out w6 HB6.out).mono ?_)
    rintro e w7 ⟨rfl, hb7⟩
    have HB7 := Lib.hid (HB6.out.trans (hb7.mono HB6.out.size))
    clear hb7
    go_wp2_with fail
    go_ret
    exact ⟨rfl, HB7.out⟩
end
end Go.Proofs.Ytmcohbppeabmgaa
