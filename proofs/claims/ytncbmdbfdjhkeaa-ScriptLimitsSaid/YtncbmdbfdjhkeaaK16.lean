import Derived.Test.YtncbmdbfdjhkeaaProg
import Derived.RegionTactic
import Derived.StillTail
import Derived.KernelRfl
/-
  A region that draws its order, by what holds whichever operations are done: an invariant in place of an enumeration of orders. Condition: each operation waits for earlier ones of the text only.
-/
namespace Go.Proofs.Ytncbmdbfdjhkeaa
section
variable {P : Program} {ops : Array Oper} {Q : Exit → Act → World → Prop}
def earlierB (ops : Array Oper) : Bool := (List.range ops.size).all fun i => ((ops[i]?).map fun o => o.after.all fun e => decide (e.on < i)).getD true
theorem all_listed (hB : earlierB ops = true) {listed : Array Bool} (hs : listed.size = ops.size) (hr : Region.ready .any ops listed = []) : ∀ i, i < ops.size → listed.getD i false = true := by
  intro i
  induction i using Nat.strongRecOn with
  | _ i ih =>
    intro hi
    cases hl : listed.getD i false with
    | true => rfl
    | false =>
      exfalso
      have hm : i ∈ Region.ready .any ops listed := by
        refine mem_ready.2 ⟨getD_in (by omega) hl, ops[i]'hi, Array.getElem?_eq_getElem hi, fun e he _ => ?_⟩
        have h1 := List.all_eq_true.1 hB i (List.mem_range.2 hi)
        rw [Array.getElem?_eq_getElem hi] at h1
        simp only [Option.map_some, Option.getD_some] at h1
        have h2 := Array.all_eq_true'.1 h1 e he
        have h3 : e.on < i := by simpa using h2
        exact ih e.on h3 (by omega)
      rw [hr] at hm
      cases hm
theorem count_set {l : List Bool} {i : Nat} (h : l[i]? = some false) : (l.set i true).count false + 1 = l.count false := by
  induction l generalizing i with
  | nil => simp at h
  | cons x l ih =>
    cases i with
    | zero =>
      simp at h
      subst h
      simp
    | succ i =>
      have := ih (i := i) (by simpa using h)
      simp only [List.set_cons_succ, List.count_cons]
      omega
theorem any_inv (J : Array Bool → Act → World → Prop) (hB : earlierB ops = true)
    (hstep : ∀ listed a w i, J listed a w → listed.size = ops.size → i ∈ Region.ready .any ops listed → wpOp P ops Q i (J (listed.setIfInBounds i true)) a w)
    (hend : ∀ listed a w, J listed a w → (∀ i, i < ops.size → listed.getD i false = true) → Q .normal a w) :
    ∀ (fuel : Nat) (listed : Array Bool) (a : Act) (w : World), listed.size = ops.size → listed.toList.count false ≤ fuel → J listed a w → wpAny P .any ops Q fuel listed a w
  | 0, listed, a, w, hs, hc, hJ => by
    have hall : ∀ i, i < ops.size → listed.getD i false = true := by
      intro i hi
      cases hl : listed.getD i false with
      | true => rfl
      | false =>
        exfalso
        have hlt : i < listed.size := by omega
        have : listed.toList[i]? = some false := by
          rw [Array.getElem?_toList, Array.getElem?_eq_getElem hlt]
          simpa [hlt] using hl
        have hm := List.mem_of_getElem? this
        have := List.count_pos_iff.2 hm
        omega
    refine ⟨?_, hend _ _ _ hJ hall⟩
    cases hr : Region.ready .any ops listed with
    | nil => rfl
    | cons j l =>
      exfalso
      have hj : j ∈ Region.ready .any ops listed := by rw [hr]; exact List.mem_cons_self
      obtain ⟨hun, o, ho, _⟩ := mem_ready.1 hj
      have := hall j (Array.getElem?_eq_some_iff.1 ho).1
      rw [getD_both hun] at this
      cases this
  | fuel + 1, listed, a, w, hs, hc, hJ => by
    refine ⟨fun hr => hend _ _ _ hJ (all_listed hB hs hr), fun i hi => ?_⟩
    obtain ⟨hun, o, ho, _⟩ := mem_ready.1 hi
    have hilt : i < listed.size := by rw [hs]; exact (Array.getElem?_eq_some_iff.1 ho).1
    have h1 := count_set (l := listed.toList) (i := i) (by
      rw [Array.getElem?_toList, Array.getElem?_eq_getElem hilt]
      simpa [hilt] using getD_both hun)
    refine wpOp_mono (fun a' w' hJ' => any_inv J hB hstep hend fuel _ a' w' (by simpa using hs) ?_ hJ') (hstep listed a w i hJ hs hi)
    rw [Array.toList_setIfInBounds]
    omega
theorem wp_region_inv (J : Array Bool → Act → World → Prop) {id : Nat} {a : Act} {w : World} (hm : P.follows .mixedOrders = true) (hB : earlierB ops = true) (h0 : J (Array.replicate ops.size false) a w.drew)
    (hstep : ∀ listed a w i, J listed a w → listed.size = ops.size → i ∈ Region.ready .any ops listed → wpOp P ops Q i (J (listed.setIfInBounds i true)) a w)
    (hend : ∀ listed a w, J listed a w → (∀ i, i < ops.size → listed.getD i false = true) → Q .normal a w) : (Code.region id ops true).wp P Q a w :=
  wp_region_any hm (any_inv J hB hstep hend _ _ _ _ (by simp) (by simp) h0)
end
end Go.Proofs.Ytncbmdbfdjhkeaa
