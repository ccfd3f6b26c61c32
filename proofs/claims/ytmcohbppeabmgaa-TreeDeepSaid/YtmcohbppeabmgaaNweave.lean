/-
  A file put between two kids, and two kids with the file between them made one: the files in their order stay. No condition.
-/
import Derived.Test.YtmcohbppeabmgaaNghost
namespace Go.Proofs.Ytmcohbppeabmgaa
open Go.RowKit Go.Deep

theorem weave_ins {fs : List FX} {kk : List (List FX)} {i : Nat} {x : FX} {A B : List FX} (hi : i ≤ fs.length) (hk : kk.length = fs.length + 1) (h : kk[i]? = some (A ++ x :: B)) :
    weave (fs.take i ++ [x] ++ fs.drop i) (kk.take i ++ [A, B] ++ kk.drop (i + 1)) = weave fs kk := by
  have hki : i < kk.length := by omega
  have e : kk = kk.take i ++ (A ++ x :: B) :: kk.drop (i + 1) := by
    conv => lhs; rw [← List.take_append_drop i kk]
    rw [List.drop_eq_getElem_cons hki]
    rw [List.getElem?_eq_getElem hki] at h
    injection h with h
    rw [h]
  have ef : fs = fs.take i ++ fs.drop i := (List.take_append_drop i fs).symm
  have hl : (fs.take i).length = (kk.take i).length := by rw [List.length_take, List.length_take]; omega
  have h1 := weave_mid (fs1 := fs.take i) (fs2 := fs.drop i) (ks1 := kk.take i) (ks2 := kk.drop (i + 1)) (k := A ++ x :: B) hl
  rw [← ef, ← e] at h1
  have h2 := weave_mid (fs1 := fs.take i) (fs2 := x :: fs.drop i) (ks1 := kk.take i) (ks2 := B :: kk.drop (i + 1)) (k := A) hl
  rw [h1, List.append_assoc, List.append_assoc, List.singleton_append, List.cons_append, List.cons_append, List.nil_append, h2]
  simp [tailF]
theorem weave_del {fs : List FX} {kk : List (List FX)} {i : Nat} {x : FX} {A B : List FX} (hx : fs[i]? = some x) (hk : kk.length = fs.length + 1) (hA : kk[i]? = some A) (hB : kk[i + 1]? = some B) :
    weave (fs.take i ++ [] ++ fs.drop (i + 1)) (kk.take i ++ [A ++ x :: B] ++ kk.drop (i + 2)) = weave fs kk := by
  have hi : i < fs.length := (List.getElem?_eq_some_iff.1 hx).1
  have hki : i < kk.length := by omega
  have hki2 : i + 1 < kk.length := by omega
  have e : kk = kk.take i ++ A :: B :: kk.drop (i + 2) := by
    conv => lhs; rw [← List.take_append_drop i kk]
    rw [List.drop_eq_getElem_cons hki, List.drop_eq_getElem_cons hki2]
    rw [List.getElem?_eq_getElem hki] at hA
    rw [List.getElem?_eq_getElem hki2] at hB
    injection hA with hA
    injection hB with hB
    rw [hA, hB]
  have ef : fs = fs.take i ++ x :: fs.drop (i + 1) := by
    conv => lhs; rw [← List.take_append_drop i fs]
    rw [List.drop_eq_getElem_cons hi]
    rw [List.getElem?_eq_getElem hi] at hx
    injection hx with hx
    rw [hx]
  have hl : (fs.take i).length = (kk.take i).length := by rw [List.length_take, List.length_take]; omega
  have h1 := weave_mid (fs1 := fs.take i) (fs2 := fs.drop (i + 1)) (ks1 := kk.take i) (ks2 := kk.drop (i + 2)) (k := A ++ x :: B) hl
  have h2 := weave_mid (fs1 := fs.take i) (fs2 := x :: fs.drop (i + 1)) (ks1 := kk.take i) (ks2 := B :: kk.drop (i + 2)) (k := A) hl
  rw [← ef, ← e] at h2
  rw [h2, List.append_nil, List.append_assoc, List.singleton_append, h1]
  simp [tailF]
/-- A node's kid divided, in memory. -/
theorem IsN.ins {w : World} {h : Nat} {FS : List FX} {KS : List (NT h)} {AD : List Nat} {i : Nat} {T ta tb : NT h} {x : FX} {a b c : Nat} (hk : KidsAre w h KS AD) (hl : KS.length = FS.length + 1) (hi : i ≤ FS.length) (hT : KS[i]? = some T) (hf : NT.flat h T = NT.flat h ta ++ x :: NT.flat h tb)
    (ha : IsN w h ta a) (hb : IsN w h tb b) (hc : NodeAt w c (FS.take i ++ [x] ++ FS.drop i) (AD.take i ++ [a, b] ++ AD.drop (i + 1))) (oa : NT.ok 1 1 h ta) (ob : NT.ok 1 1 h tb) (oK : ∀ (j : Nat) (t : NT h), j ≠ i → KS[j]? = some t → NT.ok 1 2 h t) :
    ∃ r : NT (h + 1), IsN w (h + 1) r c ∧ NT.flat (h + 1) r = weave FS (KS.map (NT.flat h)) ∧ (NT.files (h + 1) r).length = FS.length + 1 ∧ ∀ lo hi, lo ≤ (NT.files (h + 1) r).length → (NT.files (h + 1) r).length ≤ hi → NT.ok lo hi (h + 1) r := by
  have hlen : (FS.take i ++ [x] ++ FS.drop i).length = FS.length + 1 := by simp; omega
  have hk2 : KidsAre w h (KS.take i ++ [ta, tb] ++ KS.drop (i + 1)) (AD.take i ++ [a, b] ++ AD.drop (i + 1)) := ((hk.take i).append ((KidsAre.one ha).append (KidsAre.one hb))).append (hk.drop (i + 1))
  refine ⟨(FS.take i ++ [x] ++ FS.drop i, KS.take i ++ [ta, tb] ++ KS.drop (i + 1)), ⟨_, hc, hk2.1, hk2.2⟩, ?_, hlen, fun lo hi' h1 h2 => ⟨h1, h2, ?_, ?_⟩⟩
  · show weave _ ((KS.take i ++ [ta, tb] ++ KS.drop (i + 1)).map (NT.flat h)) = _
    rw [List.map_append, List.map_append, List.map_take, List.map_drop]
    exact weave_ins hi (by rw [List.length_map]; exact hl) (by rw [List.getElem?_map, hT, Option.map_some, hf])
  · rw [hlen]
    simp
    omega
  · intro t ht
    rcases List.mem_append.1 ht with ht | ht
    · rcases List.mem_append.1 ht with ht | ht
      · obtain ⟨j, hj⟩ := List.getElem?_of_mem ht
        rw [List.getElem?_take] at hj
        split at hj
        · exact oK j t (by omega) hj
        · cases hj
      · simp only [List.mem_cons, List.not_mem_nil, or_false] at ht
        rcases ht with rfl | rfl
        · exact oa.to oa.len.1 (Nat.le_trans oa.len.2 (by omega))
        · exact ob.to ob.len.1 (Nat.le_trans ob.len.2 (by omega))
    · obtain ⟨j, hj⟩ := List.getElem?_of_mem ht
      rw [List.getElem?_drop] at hj
      exact oK _ t (by omega) hj
/-- A node's kid taken as it is. -/
theorem IsN.keep {w : World} {h : Nat} {FS : List FX} {KS : List (NT h)} {AD : List Nat} {c : Nat} (hk : KidsAre w h KS AD) (hl : KS.length = FS.length + 1) (hc : NodeAt w c FS AD) (oK : ∀ (j : Nat) (t : NT h), KS[j]? = some t → NT.ok 1 2 h t) :
    ∃ r : NT (h + 1), IsN w (h + 1) r c ∧ NT.flat (h + 1) r = weave FS (KS.map (NT.flat h)) ∧ (NT.files (h + 1) r).length = FS.length ∧ ∀ lo hi, lo ≤ (NT.files (h + 1) r).length → (NT.files (h + 1) r).length ≤ hi → NT.ok lo hi (h + 1) r :=
  ⟨(FS, KS), ⟨_, hc, hk.1, hk.2⟩, rfl, rfl, fun lo hi h1 h2 => ⟨h1, h2, hl, fun t ht => by
    obtain ⟨j, hj⟩ := List.getElem?_of_mem ht
    exact oK j t hj⟩⟩
theorem len_ins1 {FS : List FX} {x : FX} {i n : Nat} (hn : n = FS.length) (hi : i ≤ n) : (FS.take i ++ [x] ++ FS.drop i).length = i + 1 + (n - i) := by
  simp
  omega
theorem len_ins2 {AD : List Nat} {a b i i1 n : Nat} (hn : n = AD.length) (hi : i < n) : (AD.take i ++ [a, b] ++ AD.drop i1).length = i + 2 + (n - i1) := by
  simp
  omega
theorem hn2_1 (w : World) (a b : Obj) : ((w.alloc a).alloc b).heap[w.heap.size + 1]? = some b := by
  have h := heap_alloc_new (w.alloc a) b
  rw [World.size_alloc] at h
  exact h
/-- What changed gives. -/
def ChangedIs (h : Nat) (fs : List FX) (KS : List (NT h)) (T : NT h) (w : World) (e : Ending) (w' : World) : Prop := ∃ (r : NT (h + 1)) (b : Nat), e = .returned (.pointer (some ⟨b, 0, none⟩)) ∧ IsN w' (h + 1) r b ∧ NT.flat (h + 1) r = weave fs (KS.map (NT.flat h)) ∧
  fs.length ≤ (NT.files (h + 1) r).length + 1 ∧ (NT.files (h + 1) r).length ≤ fs.length + 1 ∧ (1 ≤ (NT.files h T).length → fs.length ≤ (NT.files (h + 1) r).length) ∧ ((NT.files h T).length ≤ 2 → (NT.files (h + 1) r).length ≤ fs.length) ∧ (∀ lo hi, lo ≤ (NT.files (h + 1) r).length → (NT.files (h + 1) r).length ≤ hi → NT.ok lo hi (h + 1) r) ∧ Below w.heap.size w w'
end Go.Proofs.Ytmcohbppeabmgaa
