/-
  Package script: the law's alive. Condition: MaxLen's row is as it is.
-/
import Derived.Test.YtncbmdbfdjhkeaaSu
namespace Go.Proofs.Ytncbmdbfdjhkeaa
open Go.RowKit Go.Deep Go.Sort

def alvT : String := "2,$!s/a/b/g;p"
def alvL : List UInt8 := [50, 44, 36, 33, 115, 47, 97, 47, 98, 47, 103, 59, 112]
def alvD : List Ds := [⟨115, (1, 2, none), (2, 0, none), true, true⟩, ⟨112, (0, 0, none), (0, 0, none), false, false⟩]
set_option maxRecDepth 100000 in
theorem alv_ads : adsX false alvL 0 = some ((1, 2, none), (2, 0, none), 3) := by kernel_rfl
set_option maxRecDepth 100000 in
theorem alv_ng : ngF 14 alvL 3 false = (true, 4) := by kernel_rfl
/-- A leaf's tree. -/
theorem leaf_of {x : Option PN} {k : Int} (h : x.map (fun t => (t.kids.length, t.kind)) = some (0, k)) (hk : k ≠ 5) : ∃ t, x = some t ∧ t.kids = [] ∧ t.kind ≠ 5 := by
  cases x with
  | none => simp at h
  | some t =>
    simp only [Option.map_some, Option.some.injEq, Prod.mk.injEq, List.length_eq_zero_iff] at h
    exact ⟨t, rfl, h.1, by rw [h.2]; exact hk⟩
set_option maxRecDepth 100000 in
theorem alv_leaf : ∃ t, parseP bkOf false [97] = some t ∧ t.kids = [] ∧ t.kind ≠ 5 := leaf_of (k := 1) (by kernel_rfl) (by decide)
set_option maxRecDepth 100000 in
theorem alv_tpl : (tplF 1 [] [] [98]).map (fun l => (l.length, mxG l)) = some (1, 0) := by kernel_rfl
set_option maxRecDepth 100000 in
theorem alv_sub : SubOk false alvL 5 ⟨true, false, false, 1, 11⟩ ⟨#[]⟩ 11 true := by
  obtain ⟨t, ht, hk, h5⟩ := alv_leaf
  have hp : patX false alvL 6 47 = some (false, some t, 8) := by
    unfold patX
    rw [show cutG 47 false alvL ((6 : Nat) : Int) = some ([97], 8) by kernel_rfl]
    simp only [List.cons_ne_nil, if_false, ht]
  have hT := alv_tpl
  cases hps : tplF 1 [] [] [98] with
  | none => rw [hps] at hT; simp at hT
  | some ps =>
    rw [hps] at hT
    simp only [Option.map_some, Option.some.injEq, Prod.mk.injEq] at hT
    exact ⟨47, 6, false, some t, 8, [98], 10, ps, by kernel_rfl, by kernel_rfl, hp, fun t' h => by injection h with h; subst h; exact ⟨hk, h5⟩, by kernel_rfl, hps, by omega, by omega, by kernel_rfl, .inl ⟨by kernel_rfl, rfl, rfl, rfl⟩⟩
set_option maxRecDepth 100000 in
theorem alv_scr : Scr false alvL 0 0 alvD true := by
  refine .more 0 0 0 11 _ _ true (by kernel_rfl) (by decide) (by decide) (by decide) (by decide) (.subst 0 (1, 2, none) (2, 0, none) 3 4 11 11 true ⟨true, false, false, 1, 11⟩ ⟨#[]⟩ alv_ads alv_ng (by kernel_rfl) alv_sub ⟨by kernel_rfl, by kernel_rfl⟩) ?_
  refine .more 1 11 12 13 _ _ true (by kernel_rfl) (by decide) (by decide) (by decide) (by decide) (.plain 12 (0, 0, none) (0, 0, none) 12 12 13 false 112 112 (by kernel_rfl) (by kernel_rfl) (by kernel_rfl) (by kernel_rfl) (by decide) (.inr (by refine ⟨by decide, by kernel_rfl, by kernel_rfl⟩))) ?_
  exact .done 2 13 (by kernel_rfl) (by decide)
theorem alv_parse {w : World} (hM : MaxAt w) : Calls Try.prog 6 #[.string ⟨#[50, 44, 36, 33, 115, 47, 97, 47, 98, 47, 103, 59, 112]⟩, .bool false] w (PaA alvD true w) := by
  refine parse_m (s := ⟨#[50, 44, 36, 33, 115, 47, 97, 47, 98, 47, 103, 59, 112]⟩) (ext := false) (ds := alvD) (ok := true) (by show 13 ≤ 2000; omega) hM ?_
  have h := alv_scr
  unfold alvL at h
  exact h
theorem two_d {cs : List CX} {a b : Ds} (h : AllD cs [a, b]) : ∃ c0 c1, cs = [c0, c1] ∧ CxD c0 a ∧ CxD c1 b := by
  cases h with
  | cons k0 h =>
    cases h with
    | cons k1 h =>
      cases h with
      | nil => exact ⟨_, _, rfl, k0, k1⟩
set_option maxRecDepth 100000 in
theorem cmd_addr {W : World} {g o n cap i : Nat} (hi : i < n) : (Instr.indexAt 23 (.slice (some ⟨g, o, none⟩) n cap) (.int .i64 (i : Int))).run Try.prog W = .ok (.pointer (some ⟨g, o + i * 42, none⟩)) W := by
  rw [run_indexAt_slice (h := Try.underlying23), if_pos (by omega)]
  obtain ⟨inf, hi2, hz, hs, hb⟩ := info_parts info_cmd
  have hsz : (sizeOf (Try.prog.elem 23)).run Try.prog W = .ok 42 W := by
    rw [show Try.prog.elem 23 = 42 from by kernel_rfl]
    simp [sizeOf, typeInfo, hi2, hs, go_sem]
  rw [hsz]
  simp [Result.andThen, Addr.add]

set_option maxRecDepth 100000 in
set_option maxHeartbeats 16000000 in
theorem alive_m {w : World} (hM : MaxAt w) : Calls Try.prog 5 #[] w fun e w' => e = .returned (.bool true) ∧ Below w.heap.size w w' := by
  have HP := Lib.hid (alv_parse hM)
  go_enter Try.func5, Try.ntmps5
  go_wp2_with fail
  go_at_call 6
  with_reducible refine HP.out.mono ?_
  rintro e w1 ⟨hb, hpa⟩
  rcases hpa with ⟨h, _⟩ | ⟨_, A, cp, cs, rfl, hraw, had⟩
  · cases h
  have HB := Lib.hid hb
  obtain ⟨c0, c1, rfl, k0, k1⟩ := two_d had
  have HR := Lib.hid hraw
  clear hb hraw
  obtain ⟨g, o, rfl, r0⟩ := raw_elem CX.len (by decide) HR.out (i := 0) (x := c0) rfl
  obtain ⟨g', o', he, r1⟩ := raw_elem CX.len (by decide) HR.out (i := 1) (x := c1) rfl
  cases he
  have hi0 : ∀ W, (Instr.indexAt 23 (.slice (some ⟨g, o, none⟩) 2 cp) (.int .i64 0)).run Try.prog W = .ok (.pointer (some ⟨g, o, none⟩)) W := fun W => cmd_addr (i := 0) (by decide)
  have hi1 : ∀ W, (Instr.indexAt 23 (.slice (some ⟨g, o, none⟩) 2 cp) (.int .i64 1)).run Try.prog W = .ok (.pointer (some ⟨g, o + 42, none⟩)) W := fun W => cmd_addr (i := 1) (by decide)
  have q1 : w1.cell? ⟨g, o + 1, none⟩ = some (.int .u8 115) := by have := r0 1 _ rfl; rw [this, k0.name]; rfl
  have q2 : w1.cell? ⟨g, o + 24, none⟩ = some (.bool true) := by have := r0 24 _ rfl; rw [this, k0.nt]
  have q3 : w1.cell? ⟨g, o + 38, none⟩ = some (.bool true) := by have := r0 38 _ rfl; rw [this, k0.gl]
  have q4 : w1.cell? ⟨g, o + 3, none⟩ = some (.int .i64 2) := by have := r0 3 _ rfl; rw [this, k0.fl]
  have q5 : w1.cell? ⟨g, o + 42 + 1, none⟩ = some (.int .u8 112) := by have := r1 1 _ rfl; rw [this, k1.name]; rfl
  clear r0 r1 k0 k1 had
  go_wp2_with fail
  go_ret
  exact ⟨rfl, HB.out⟩
end Go.Proofs.Ytncbmdbfdjhkeaa
