/-
  A file put between two kids, and two kids with the file between them made one: the files in their order stay. No condition.
  A file put in, set or struck out at a place among a node's files, or in a kid: what becomes of all files in order. No condition.
-/
import Derived.Test.YtcjbhjbjkfgphaaNghost
namespace Go.Proofs.Ytcjbhjbjkfgphaa
open Go.RowKit Go.Deep

theorem weave_ins {fs : List FX} {kk : List (List FX)} {i : Nat} {x : FX} {A B : List FX} (hi : i ≤ fs.length) (hk : kk.length = fs.length + 1) (h : kk[i]? = some (A ++ x :: B)) :
    weave (fs.take i ++ [x] ++ fs.drop i) (kk.take i ++ [A, B] ++ kk.drop (i + 1)) = weave fs kk := by
  have hki : i < kk.length := by omega
  have e : kk = kk.take i ++ (A ++ x :: B) :: kk.drop (i + 1) := by
    conv => lhs; rw [← List.take_append_drop i kk]
    rw [List.drop_eq_getElem_cons hki]
    rw [List.getElem?_eq_getElem hki] at h
    injection h with h
    rw [h]
  have ef : fs = fs.take i ++ fs.drop i := (List.take_append_drop i fs).symm
  have hl : (fs.take i).length = (kk.take i).length := by rw [List.length_take, List.length_take]; omega
  have h1 := weave_mid (fs1 := fs.take i) (fs2 := fs.drop i) (ks1 := kk.take i) (ks2 := kk.drop (i + 1)) (k := A ++ x :: B) hl
  rw [← ef, ← e] at h1
  have h2 := weave_mid (fs1 := fs.take i) (fs2 := x :: fs.drop i) (ks1 := kk.take i) (ks2 := B :: kk.drop (i + 1)) (k := A) hl
  rw [h1, List.append_assoc, List.append_assoc, List.singleton_append, List.cons_append, List.cons_append, List.nil_append, h2]
  simp [tailF]
theorem weave_del {fs : List FX} {kk : List (List FX)} {i : Nat} {x : FX} {A B : List FX} (hx : fs[i]? = some x) (hk : kk.length = fs.length + 1) (hA : kk[i]? = some A) (hB : kk[i + 1]? = some B) :
    weave (fs.take i ++ [] ++ fs.drop (i + 1)) (kk.take i ++ [A ++ x :: B] ++ kk.drop (i + 2)) = weave fs kk := by
  have hi : i < fs.length := (List.getElem?_eq_some_iff.1 hx).1
  have hki : i < kk.length := by omega
  have hki2 : i + 1 < kk.length := by omega
  have e : kk = kk.take i ++ A :: B :: kk.drop (i + 2) := by
    conv => lhs; rw [← List.take_append_drop i kk]
    rw [List.drop_eq_getElem_cons hki, List.drop_eq_getElem_cons hki2]
    rw [List.getElem?_eq_getElem hki] at hA
    rw [List.getElem?_eq_getElem hki2] at hB
    injection hA with hA
    injection hB with hB
    rw [hA, hB]
  have ef : fs = fs.take i ++ x :: fs.drop (i + 1) := by
    conv => lhs; rw [← List.take_append_drop i fs]
    rw [List.drop_eq_getElem_cons hi]
    rw [List.getElem?_eq_getElem hi] at hx
    injection hx with hx
    rw [hx]
  have hl : (fs.take i).length = (kk.take i).length := by rw [List.length_take, List.length_take]; omega
  have h1 := weave_mid (fs1 := fs.take i) (fs2 := fs.drop (i + 1)) (ks1 := kk.take i) (ks2 := kk.drop (i + 2)) (k := A ++ x :: B) hl
  have h2 := weave_mid (fs1 := fs.take i) (fs2 := x :: fs.drop (i + 1)) (ks1 := kk.take i) (ks2 := B :: kk.drop (i + 2)) (k := A) hl
  rw [← ef, ← e] at h2
  rw [h2, List.append_nil, List.append_assoc, List.singleton_append, h1]
  simp [tailF]
/-- A node's kid divided, in memory. -/
theorem IsN.ins {w : World} {h : Nat} {FS : List FX} {KS : List (NT h)} {AD : List Nat} {i : Nat} {T ta tb : NT h} {x : FX} {a b c : Nat} (hk : KidsAre w h KS AD) (hl : KS.length = FS.length + 1) (hi : i ≤ FS.length) (hT : KS[i]? = some T) (hf : NT.flat h T = NT.flat h ta ++ x :: NT.flat h tb)
    (ha : IsN w h ta a) (hb : IsN w h tb b) (hc : NodeAt w c (FS.take i ++ [x] ++ FS.drop i) (AD.take i ++ [a, b] ++ AD.drop (i + 1))) (oa : NT.ok 1 1 h ta) (ob : NT.ok 1 1 h tb) (oK : ∀ (j : Nat) (t : NT h), j ≠ i → KS[j]? = some t → NT.ok 1 2 h t) :
    ∃ r : NT (h + 1), IsN w (h + 1) r c ∧ NT.flat (h + 1) r = weave FS (KS.map (NT.flat h)) ∧ (NT.files (h + 1) r).length = FS.length + 1 ∧ ∀ lo hi, lo ≤ (NT.files (h + 1) r).length → (NT.files (h + 1) r).length ≤ hi → NT.ok lo hi (h + 1) r := by
  have hlen : (FS.take i ++ [x] ++ FS.drop i).length = FS.length + 1 := by simp; omega
  have hk2 : KidsAre w h (KS.take i ++ [ta, tb] ++ KS.drop (i + 1)) (AD.take i ++ [a, b] ++ AD.drop (i + 1)) := ((hk.take i).append ((KidsAre.one ha).append (KidsAre.one hb))).append (hk.drop (i + 1))
  refine ⟨(FS.take i ++ [x] ++ FS.drop i, KS.take i ++ [ta, tb] ++ KS.drop (i + 1)), ⟨_, hc, hk2.1, hk2.2⟩, ?_, hlen, fun lo hi' h1 h2 => ⟨h1, h2, ?_, ?_⟩⟩
  · show weave _ ((KS.take i ++ [ta, tb] ++ KS.drop (i + 1)).map (NT.flat h)) = _
    rw [List.map_append, List.map_append, List.map_take, List.map_drop]
    exact weave_ins hi (by rw [List.length_map]; exact hl) (by rw [List.getElem?_map, hT, Option.map_some, hf])
  · rw [hlen]
    simp
    omega
  · intro t ht
    rcases List.mem_append.1 ht with ht | ht
    · rcases List.mem_append.1 ht with ht | ht
      · obtain ⟨j, hj⟩ := List.getElem?_of_mem ht
        rw [List.getElem?_take] at hj
        split at hj
        · exact oK j t (by omega) hj
        · cases hj
      · simp only [List.mem_cons, List.not_mem_nil, or_false] at ht
        rcases ht with rfl | rfl
        · exact oa.to oa.len.1 (Nat.le_trans oa.len.2 (by omega))
        · exact ob.to ob.len.1 (Nat.le_trans ob.len.2 (by omega))
    · obtain ⟨j, hj⟩ := List.getElem?_of_mem ht
      rw [List.getElem?_drop] at hj
      exact oK _ t (by omega) hj
/-- A node's kid taken as it is. -/
theorem IsN.keep {w : World} {h : Nat} {FS : List FX} {KS : List (NT h)} {AD : List Nat} {c : Nat} (hk : KidsAre w h KS AD) (hl : KS.length = FS.length + 1) (hc : NodeAt w c FS AD) (oK : ∀ (j : Nat) (t : NT h), KS[j]? = some t → NT.ok 1 2 h t) :
    ∃ r : NT (h + 1), IsN w (h + 1) r c ∧ NT.flat (h + 1) r = weave FS (KS.map (NT.flat h)) ∧ (NT.files (h + 1) r).length = FS.length ∧ ∀ lo hi, lo ≤ (NT.files (h + 1) r).length → (NT.files (h + 1) r).length ≤ hi → NT.ok lo hi (h + 1) r :=
  ⟨(FS, KS), ⟨_, hc, hk.1, hk.2⟩, rfl, rfl, fun lo hi h1 h2 => ⟨h1, h2, hl, fun t ht => by
    obtain ⟨j, hj⟩ := List.getElem?_of_mem ht
    exact oK j t hj⟩⟩
theorem len_ins1 {FS : List FX} {x : FX} {i n : Nat} (hn : n = FS.length) (hi : i ≤ n) : (FS.take i ++ [x] ++ FS.drop i).length = i + 1 + (n - i) := by
  simp
  omega
theorem len_ins2 {AD : List Nat} {a b i i1 n : Nat} (hn : n = AD.length) (hi : i < n) : (AD.take i ++ [a, b] ++ AD.drop i1).length = i + 2 + (n - i1) := by
  simp
  omega
theorem hn2_1 (w : World) (a b : Obj) : ((w.alloc a).alloc b).heap[w.heap.size + 1]? = some b := by
  have h := heap_alloc_new (w.alloc a) b
  rw [World.size_alloc] at h
  exact h
/-- What changed gives. -/
def ChangedIs (h : Nat) (fs : List FX) (KS : List (NT h)) (T : NT h) (w : World) (e : Ending) (w' : World) : Prop := ∃ (r : NT (h + 1)) (b : Nat), e = .returned (.pointer (some ⟨b, 0, none⟩)) ∧ IsN w' (h + 1) r b ∧ NT.flat (h + 1) r = weave fs (KS.map (NT.flat h)) ∧
  fs.length ≤ (NT.files (h + 1) r).length + 1 ∧ (NT.files (h + 1) r).length ≤ fs.length + 1 ∧ (1 ≤ (NT.files h T).length → fs.length ≤ (NT.files (h + 1) r).length) ∧ ((NT.files h T).length ≤ 2 → (NT.files (h + 1) r).length ≤ fs.length) ∧ (∀ lo hi, lo ≤ (NT.files (h + 1) r).length → (NT.files (h + 1) r).length ≤ hi → NT.ok lo hi (h + 1) r) ∧ Below w.heap.size w w'
end Go.Proofs.Ytcjbhjbjkfgphaa

namespace Go.Proofs.Ytcjbhjbjkfgphaa
open Go.RowKit Go.Deep

theorem mem_tailF : ∀ {fs : List FX} {ks : List (List FX)}, fs.length = ks.length → ∀ x ∈ fs, x ∈ tailF fs ks
  | [], _, _, x, hx => by cases hx
  | f :: fs, k :: ks, hl, x, hx => by
    rcases List.mem_cons.1 hx with rfl | hx
    · exact List.mem_cons_self
    · exact List.mem_cons_of_mem _ (List.mem_append_right _ (mem_tailF (by simpa using hl) x hx))
  | _ :: _, [], hl, _, _ => by simp at hl
theorem rising_tailF : ∀ {fs : List FX} {ks : List (List FX)}, fs.length = ks.length → RisingX (tailF fs ks) → RisingX fs
  | [], _, _, _ => trivial
  | f :: fs, k :: ks, hl, hr => by
    obtain ⟨_, h2, h3⟩ := RisingX.split (a := [f]) (b := k ++ tailF fs ks) hr
    have ih := rising_tailF (fs := fs) (ks := ks) (by simpa using hl) (RisingX.split h2).2.1
    refine ⟨fun g hg => ?_, ih⟩
    obtain ⟨y, hy, rfl⟩ := List.mem_map.1 hg
    exact h3 f List.mem_cons_self y (List.mem_append_right _ (mem_tailF (by simpa using hl) y hy))
  | _ :: _, [], hl, _ => by simp at hl
theorem rising_weave {fs : List FX} {kk : List (List FX)} (hl : kk.length = fs.length + 1) (hr : RisingX (weave fs kk)) : RisingX fs := by
  cases kk with
  | nil => simp at hl
  | cons k ks => exact rising_tailF (by simpa using hl.symm) (RisingX.split (a := k) (b := tailF fs ks) hr).2.1
theorem rising_kid {fs : List FX} {kk : List (List FX)} {i : Nat} {k : List FX} (hl : kk.length = fs.length + 1) (hk : kk[i]? = some k) (hr : RisingX (weave fs kk)) : RisingX k := by
  have hki : i < kk.length := (List.getElem?_eq_some_iff.1 hk).1
  have e : kk = kk.take i ++ k :: kk.drop (i + 1) := by
    conv => lhs; rw [← List.take_append_drop i kk]
    rw [List.drop_eq_getElem_cons hki]
    rw [List.getElem?_eq_getElem hki] at hk
    injection hk with hk
    rw [hk]
  have h1 := weave_mid (fs1 := fs.take i) (fs2 := fs.drop i) (ks1 := kk.take i) (ks2 := kk.drop (i + 1)) (k := k) (by rw [List.length_take, List.length_take]; omega)
  rw [List.take_append_drop, ← e] at h1
  rw [h1] at hr
  exact (RisingX.split (RisingX.split hr).2.1).1
/-- All around a kid. -/
theorem weave_at {fs : List FX} {kk : List (List FX)} {i : Nat} {k : List FX} (hl : kk.length = fs.length + 1) (hk : kk[i]? = some k) : weave fs kk = headF (fs.take i) (kk.take i) ++ (k ++ tailF (fs.drop i) (kk.drop (i + 1))) ∧ (fs.take i).length = (kk.take i).length ∧ (fs.drop i).length = (kk.drop (i + 1)).length ∧
    ∀ k', weave fs (kk.take i ++ [k'] ++ kk.drop (i + 1)) = headF (fs.take i) (kk.take i) ++ (k' ++ tailF (fs.drop i) (kk.drop (i + 1))) := by
  have hki : i < kk.length := (List.getElem?_eq_some_iff.1 hk).1
  have e : kk = kk.take i ++ k :: kk.drop (i + 1) := by
    conv => lhs; rw [← List.take_append_drop i kk]
    rw [List.drop_eq_getElem_cons hki]
    rw [List.getElem?_eq_getElem hki] at hk
    injection hk with hk
    rw [hk]
  have hl1 : (fs.take i).length = (kk.take i).length := by rw [List.length_take, List.length_take]; omega
  have hw := fun k' => weave_mid (fs1 := fs.take i) (fs2 := fs.drop i) (ks1 := kk.take i) (ks2 := kk.drop (i + 1)) (k := k') hl1
  refine ⟨?_, hl1, by rw [List.length_drop, List.length_drop]; omega, fun k' => ?_⟩
  · have h1 := hw k
    rw [List.take_append_drop, ← e] at h1
    exact h1
  · have h1 := hw k'
    rw [List.take_append_drop] at h1
    rw [List.append_assoc, List.singleton_append]
    exact h1
theorem put_kid {fs : List FX} {kk : List (List FX)} {i : Nat} {k k' : List FX} {x : FX} (hl : kk.length = fs.length + 1) (hk : kk[i]? = some k) (hr : RisingX (weave fs kk)) (hp : PlaceIs fs x.f.path i false) (h : PutX k x k') : PutX (weave fs kk) x (weave fs (kk.take i ++ [k'] ++ kk.drop (i + 1))) := by
  obtain ⟨h1, h2, h3, h4⟩ := weave_at hl hk
  rw [h1] at hr
  have s1 := RisingX.split hr
  have s2 := RisingX.split s1.2.1
  rw [h1, h4]
  exact h.within (head_less s1.1 hp.lt h2) (tail_more s2.2.1 (hp.no rfl) h3)
theorem cut_kid {fs : List FX} {kk : List (List FX)} {i : Nat} {k k' : List FX} {p : ByteArray} (hl : kk.length = fs.length + 1) (hk : kk[i]? = some k) (hr : RisingX (weave fs kk)) (hp : PlaceIs fs p i false) (h : CutX k p k') : CutX (weave fs kk) p (weave fs (kk.take i ++ [k'] ++ kk.drop (i + 1))) := by
  obtain ⟨h1, h2, h3, h4⟩ := weave_at hl hk
  rw [h1] at hr
  have s1 := RisingX.split hr
  have s2 := RisingX.split s1.2.1
  rw [h1, h4]
  exact h.within (head_less s1.1 hp.lt h2) (tail_more s2.2.1 (hp.no rfl) h3)
/-- Where a path is, if it is in a node but not among its own files. -/
theorem in_kid {fs : List FX} {kk : List (List FX)} {i : Nat} {k : List FX} {p : ByteArray} (hl : kk.length = fs.length + 1) (hk : kk[i]? = some k) (hr : RisingX (weave fs kk)) (hp : PlaceIs fs p i false) {x : FX} (hx : x ∈ weave fs kk) (hxp : x.f.path = p) : x ∈ k := by
  obtain ⟨h1, h2, h3, _⟩ := weave_at hl hk
  rw [h1] at hr hx
  have s1 := RisingX.split hr
  have s2 := RisingX.split s1.2.1
  rcases List.mem_append.1 hx with hx | hx
  · have := head_less s1.1 hp.lt h2 x hx
    rw [hxp, pless_irrefl] at this
    cases this
  · rcases List.mem_append.1 hx with hx | hx
    · exact hx
    · have := tail_more s2.2.1 (hp.no rfl) h3 x hx
      rw [hxp, pless_irrefl] at this
      cases this
theorem split_at {fs : List FX} {i : Nat} {o : FX} (h : fs[i]? = some o) : fs = fs.take i ++ o :: fs.drop (i + 1) := by
  have hi := (List.getElem?_eq_some_iff.1 h).1
  conv => lhs; rw [← List.take_append_drop i fs]
  rw [List.drop_eq_getElem_cons hi]
  rw [List.getElem?_eq_getElem hi] at h
  injection h with h
  rw [h]
theorem split_kk {kk : List (List FX)} {i : Nat} {o : List FX} (h : kk[i]? = some o) : kk = kk.take i ++ o :: kk.drop (i + 1) := by
  have hi := (List.getElem?_eq_some_iff.1 h).1
  conv => lhs; rw [← List.take_append_drop i kk]
  rw [List.drop_eq_getElem_cons hi]
  rw [List.getElem?_eq_getElem hi] at h
  injection h with h
  rw [h]
/-- A node's file set anew, and its kid ahead of it. -/
theorem weave_set {fs : List FX} {kk : List (List FX)} {i : Nat} {o : FX} (hl : kk.length = fs.length + 1) (ho : fs[i]? = some o) : ∃ A k B, kk[i]? = some k ∧ weave fs kk = A ++ (k ++ o :: B) ∧ ∀ k' y, weave (fs.take i ++ [y] ++ fs.drop (i + 1)) (kk.take i ++ [k'] ++ kk.drop (i + 1)) = A ++ (k' ++ y :: B) := by
  have hi := (List.getElem?_eq_some_iff.1 ho).1
  obtain ⟨k, hk⟩ : ∃ k, kk[i]? = some k := ⟨kk[i]'(by omega), List.getElem?_eq_getElem _⟩
  obtain ⟨k2, hk2⟩ : ∃ k, kk[i + 1]? = some k := ⟨kk[i + 1]'(by omega), List.getElem?_eq_getElem _⟩
  have hki : i < kk.length := by omega
  have hki2 : i + 1 < kk.length := by omega
  have e : kk.drop (i + 1) = k2 :: kk.drop (i + 2) := by
    rw [List.drop_eq_getElem_cons hki2]
    rw [List.getElem?_eq_getElem hki2] at hk2
    injection hk2 with hk2
    rw [hk2]
  have ek : kk = kk.take i ++ k :: kk.drop (i + 1) := by
    conv => lhs; rw [← List.take_append_drop i kk]
    rw [List.drop_eq_getElem_cons hki]
    rw [List.getElem?_eq_getElem hki] at hk
    injection hk with hk
    rw [hk]
  have hl1 : (fs.take i).length = (kk.take i).length := by rw [List.length_take, List.length_take]; omega
  have hw := fun y k' => weave_mid (fs1 := fs.take i) (fs2 := y :: fs.drop (i + 1)) (ks1 := kk.take i) (ks2 := kk.drop (i + 1)) (k := k') hl1
  refine ⟨headF (fs.take i) (kk.take i), k, k2 ++ tailF (fs.drop (i + 1)) (kk.drop (i + 2)), hk, ?_, fun k' y => ?_⟩
  · have h1 := hw o k
    rw [← split_at ho, ← ek, e] at h1
    exact h1
  · have h1 := hw y k'
    rw [List.append_assoc, List.singleton_append, List.append_assoc, List.singleton_append, h1, e]
    rfl
theorem put_mid {A B : List FX} {o x : FX} (hr : RisingX (A ++ o :: B)) (ho : o.f.path = x.f.path) : PutX (A ++ o :: B) x (A ++ x :: B) := by
  have s1 := RisingX.split hr
  have s2 := RisingX.split (a := [o]) (b := B) s1.2.1
  exact ⟨A, [o], B, rfl, rfl, fun y hy => by rw [← ho]; exact s1.2.2 y hy o List.mem_cons_self, fun y hy => by rw [← ho]; exact s2.2.2 o List.mem_cons_self y hy, .inr ⟨o, rfl, ho⟩⟩
theorem cut_mid {A B : List FX} {o : FX} {p : ByteArray} (hr : RisingX (A ++ o :: B)) (ho : o.f.path = p) : CutX (A ++ o :: B) p (A ++ B) := by
  have s1 := RisingX.split hr
  have s2 := RisingX.split (a := [o]) (b := B) s1.2.1
  exact ⟨A, o, B, rfl, rfl, fun y hy => by rw [← ho]; exact s1.2.2 y hy o List.mem_cons_self, fun y hy => by rw [← ho]; exact s2.2.2 o List.mem_cons_self y hy, ho⟩
theorem put_new {fs : List FX} {i : Nat} {x : FX} (hp : PlaceIs fs x.f.path i false) : PutX fs x (fs.take i ++ [x] ++ fs.drop i) :=
  ⟨fs.take i, [], fs.drop i, by simp, by simp, hp.lt, hp.no rfl, .inl rfl⟩
end Go.Proofs.Ytcjbhjbjkfgphaa
