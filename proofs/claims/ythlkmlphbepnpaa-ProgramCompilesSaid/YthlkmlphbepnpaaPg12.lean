/-
  The live question of the laws of package program; programs without labels. No condition.
-/
import Derived.Test.YthlkmlphbepnpaaPg11
namespace Go.Proofs.Ythlkmlphbepnpaa
open Go.RowKit Go.Deep

/-- A program whose braces are closed, and that has no labels and no texts, is compiled. -/
theorem comp_ok {l : List CM} {w w' : World} {e : Ending} (hl : l.length ≤ 200) (hs : stk (cN l) l.length = some []) (h58 : ∀ i, i < l.length → cN l i ≠ 58) (hT : ∀ i, i < l.length → cT l i = ⟨#[]⟩) (h : CompAns l w e w') :
    Below w.heap.size w w' ∧ ∃ J g, Jumps (cN l) (cT l) l.length J ∧ w.heap.size ≤ g ∧ w'.rangeAt g 0 (imV (ims l J l.length)) ∧ e = .returned (.tuple #[.slice (some ⟨g, 0, none⟩) l.length l.length, .complex .f64 0 0, .int .i64 0]) := by
  obtain ⟨hb, h⟩ := h
  refine ⟨hb, ?_⟩
  rcases h with ⟨h, _⟩ | ⟨_, i, c, _, h, _⟩ | ⟨_, _, i, c, _, h, _⟩ | ⟨_, h⟩
  · omega
  · exfalso
    cases h with
    | bad _ hi h1 h2 =>
      obtain ⟨t, ht⟩ := stk_back hs (i + 1) hi
      obtain ⟨s, hs2, hc⟩ := stk_step ht
      rw [h2] at hs2
      injection hs2 with hs2
      subst hs2
      rcases hc with ⟨h3, _⟩ | ⟨_, b, h3⟩ | ⟨_, h3, _⟩
      · omega
      · cases h3
      · exact h3 h1
    | left _ t h1 =>
      rw [hs] at h1
      cases h1
  · exfalso
    cases h with
    | twice _ k hi h1 => exact h58 i hi h1
    | gone _ _ hi _ h1 => exact h1 (hT i hi)
  · exact h
theorem ins_jump {w : World} {g n i : Nat} {l : List CM} {J : Nat → Int} (h : w.rangeAt g 0 (imV (ims l J n))) (hi : i < n) : w.cell? ⟨g, i * 43 + 42, none⟩ = some (.int .i64 (J i)) := by
  have h1 := h (i * 43 + 42) (.int .i64 (J i)) (flat_get IM.len _ i _ (ims_get hi) 42 _ (by unfold IM.cells; rw [List.getElem?_append_right (by rw [CM.len]; omega), CM.len]; rfl))
  rwa [Nat.zero_add] at h1
theorem ins_cmd {w : World} {g n i : Nat} {l : List CM} {J : Nat → Int} (h : w.rangeAt g 0 (imV (ims l J n))) (hi : i < n) {c : CM} (hc : l[i]? = some c) : w.rangeAt g (i * 43) c.cells := by
  intro j v hv
  have hj : j < 42 := (List.getElem?_eq_some_iff.1 hv).1
  have h1 := h (i * 43 + j) v (flat_get IM.len _ i _ (ims_get hi) j _ (by rw [imAt_of hc]; unfold IM.cells; rw [List.getElem?_append_left (by rw [CM.len]; exact hj)]; exact hv))
  rwa [Nat.zero_add] at h1
def live3 : List CM := [nameC 123, nameC 98, nameC 125]
theorem live_stk : stk (cN live3) 3 = some [] := by
  have h0 : cN live3 0 = 123 := rfl
  have h1 : cN live3 1 = 98 := rfl
  have h2 : cN live3 2 = 125 := rfl
  have s1 : stk (cN live3) 1 = some [0] := stk_open (s := []) rfl h0
  have s2 : stk (cN live3) 2 = some [0] := stk_other s1 (by rw [h1]; omega) (by rw [h1]; omega)
  exact stk_shut s2 h2
theorem live_closes : Closes (cN live3) 0 2 := ⟨rfl, [], stk_other (stk_open (s := []) rfl rfl) (by show (98 : Int) ≠ 123; omega) (by show (98 : Int) ≠ 125; omega)⟩
theorem live_comp {w w' : World} {e : Ending} (h : CompAns live3 w e w') : Below w.heap.size w w' ∧ ∃ g, e = .returned (.tuple #[.slice (some ⟨g, 0, none⟩) 3 3, .complex .f64 0 0, .int .i64 0]) ∧ w'.cell? ⟨g, 42, none⟩ = some (.int .i64 2) ∧ w'.cell? ⟨g, 85, none⟩ = some (.int .i64 3) := by
  obtain ⟨hb, J, g, hj, _, hr, he⟩ := comp_ok (l := live3) (by decide) live_stk (fun i hi => by
    rcases (show i = 0 ∨ i = 1 ∨ i = 2 by simp [live3] at hi; omega) with rfl | rfl | rfl <;> decide) (fun i hi => by
    rcases (show i = 0 ∨ i = 1 ∨ i = 2 by simp [live3] at hi; omega) with rfl | rfl | rfl <;> rfl) h
  refine ⟨hb, g, he, ?_, ?_⟩
  · have h1 := ins_jump hr (i := 0) (by decide)
    rw [hj.brace 0 2 (by decide) live_closes] at h1
    exact h1
  · have h1 := ins_jump hr (i := 1) (by decide)
    rw [hj.top 1 (by decide) (.inl rfl) rfl] at h1
    exact h1
theorem live_deep : (dpF (cN live3) live3.length).2 = 1 := by
  have h0 : cN live3 0 = 123 := rfl
  have h1 : cN live3 1 = 98 := rfl
  have h2 : cN live3 2 = 125 := rfl
  show (dpF (cN live3) 3).2 = 1
  rw [dpF_shut h2, dpF_other (by rw [h1]; omega) (by rw [h1]; omega), dpF_open h0]
  rfl
def Alv (w : World) (e : Ending) (w' : World) : Prop := e = .returned (.bool true) ∧ Below w.heap.size w w'
set_option maxRecDepth 100000 in
set_option maxHeartbeats 4000000 in
theorem alive_is (w : World) : Calls Try.prog 9 #[] w (Alv w) := by
  unfold Alv
  have e3 : live3.length = 3 := rfl
  have HCO := Lib.hid fun (g : Nat) (W : World) (h : RawAt W (some ⟨g, 0, none⟩) (cmV live3)) => (by
    have h1 := (compile_is (l := live3) (cl := 3) h (fun c hc => by
      simp only [live3, List.mem_cons, List.not_mem_nil, or_false] at hc
      rcases hc with rfl | rfl | rfl <;> decide)).mono fun e w' h => live_comp h
    rw [e3] at h1
    exact h1 : Calls Try.prog 10 #[.slice (some ⟨g, 0, none⟩) 3 3] W fun e w' => Below W.heap.size W w' ∧ ∃ g, e = .returned (.tuple #[.slice (some ⟨g, 0, none⟩) 3 3, .complex .f64 0 0, .int .i64 0]) ∧ w'.cell? ⟨g, 42, none⟩ = some (.int .i64 2) ∧ w'.cell? ⟨g, 85, none⟩ = some (.int .i64 3))
  have HDE := Lib.hid fun (g : Nat) (W : World) (h : RawAt W (some ⟨g, 0, none⟩) (cmV live3)) => (by
    have h1 := deep_is (l := live3) (cl := 3) h (by decide)
    rw [live_deep, e3] at h1
    exact h1 : Calls Try.prog 16 #[.slice (some ⟨g, 0, none⟩) 3 3] W fun e w' => e = .returned (.int .i64 1) ∧ Below W.heap.size W w')
  clear e3
  go_enter Try.func9, Try.ntmps9
  go_upto_region 1 with fail
  refine wp_region_lit ?_
  refine wpList_build_n rfl (.const (.int .u8 123)) rfl rfl ?_
  refine wpList_build_n rfl (.const (.int .u8 98)) rfl rfl ?_
  refine wpList_build_n rfl (.const (.int .u8 125)) rfl rfl ?_
  refine wpList_lit_three rfl (.tmp 5) (.tmp 6) (.tmp 7) rfl (c := nameC 123) (d := nameC 98) (e := nameC 125) rfl rfl rfl ?_
  intro w1 g hg hown hb1
  have HO := Lib.hid (show ∀ W, Below w1.heap.size w1 W → RawAt W (some ⟨g, 0, none⟩) (cmV live3) from fun W hW => by
    obtain ⟨A, c, e, h⟩ := (hown.below hW).raw
    injection e with e
    subst e
    exact h)
  have HB1 := Lib.hid hb1
  clear hg hown hb1
  go_wp2_with fail
  go_at_call 10
  with_reducible refine (HCO.out g w1 (HO.out w1 (Below.refl _ _))).mono ?_
  rintro e w2 ⟨hb2, g2, rfl, hc1, hc2⟩
  have HB2 := Lib.hid (And.intro hb2 (HB1.out.trans (hb2.mono HB1.out.size)))
  clear hb2
  go_wp2_with fail
  go_at_call 16
  with_reducible refine (HDE.out g w2 (HO.out w2 HB2.out.1)).mono ?_
  rintro e w3 ⟨rfl, hb3⟩
  have HB3 := Lib.hid (HB2.out.2.trans (hb3.mono HB2.out.2.size))
  clear hb3
  go_wp2_with fail
  go_ret
  exact ⟨rfl, HB3.out⟩
end Go.Proofs.Ythlkmlphbepnpaa
