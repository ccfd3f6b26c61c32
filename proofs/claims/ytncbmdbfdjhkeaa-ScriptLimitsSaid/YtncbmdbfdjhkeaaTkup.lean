/-
  token.upTo: the bytes up to the first that is one of some, without blanks around them. Condition: a text of at most 2^20 bytes.
-/
import Derived.Test.YtncbmdbfdjhkeaaTkbuf
namespace Go.Proofs.Ytncbmdbfdjhkeaa
open Go.RowKit Go.Deep

theorem actG {F : (Nat → Value) → Act} {a : Act} (h : a = F (fun i => a.tmps.getD i undef)) : ∃ u, a = F u := ⟨_, h⟩
theorem addU {m m1 : Nat} (hm : m ≤ 1048577) (h : m1 = m + 1) : IntKind.i64.wrap ((m : Int) + 1) = (m1 : Int) := by
  rw [IntWalk.i64_in ((m : Int) + 1) (by omega)]; omega
def UpV (p : List UInt8 × Int) : Value := .tuple #[.string (txt p.1), .int .i64 p.2]
def UpAns (p : List UInt8 × Int) (w : World) (e : Ending) (w' : World) : Prop := e = .returned (UpV p) ∧ Below w.heap.size w w'
/-- What holds where a round begins: j bytes are read from f on, what is filled ends at g. -/
structure UpJ (st : UInt8 → Bool) (l : List UInt8) (f j g : Nat) : Prop where
  le : f + j ≤ l.length
  all : ∀ i, i < j → ∃ c, (l.drop f)[i]? = some c ∧ st c = false
  fill : g = f + (trimR ((l.drop f).take j)).length
theorem UpJ.zero {st : UInt8 → Bool} {l : List UInt8} {f : Nat} (h : f ≤ l.length) : UpJ st l f 0 f := ⟨by omega, fun i hi => by omega, by simp [trim_nil]⟩
theorem UpJ.go {st : UInt8 → Bool} {l : List UInt8} {f j g : Nat} (h : UpJ st l f j g) {c : UInt8} (hc : l[f + j]? = some c) (hs : st c = false) : UpJ st l f (j + 1) (if isBl c then g else f + j + 1) := by
  have hc2 : (l.drop f)[j]? = some c := by rw [List.getElem?_drop]; exact hc
  have hlt := (List.getElem?_eq_some_iff.1 hc).1
  refine ⟨by omega, fun i hi => ?_, ?_⟩
  · by_cases e : i = j
    · subst e; exact ⟨c, hc2, hs⟩
    · exact h.all i (by omega)
  · rw [List.take_add_one, hc2]
    simp only [Option.toList]
    rw [trim_snoc]
    cases hb : isBl c with
    | true => rw [if_pos rfl, if_pos rfl]; exact h.fill
    | false =>
      rw [if_neg (by simp), if_neg (by simp), List.length_append, List.length_take, List.length_drop]
      simp only [List.length_cons, List.length_nil]
      omega
theorem UpJ.stop {st : UInt8 → Bool} {l : List UInt8} {f j g : Nat} (h : UpJ st l f j g) (hs : ∀ c, l[f + j]? = some c → st c = true) : (l.take g).drop f = trimR (wrd st (l.drop f)) ∧ (wrd st (l.drop f)).length = j ∧ f ≤ g ∧ g ≤ l.length := by
  have e : wrd st (l.drop f) = (l.drop f).take j := by
    rw [wrd_split h.all]
    have : wrd st ((l.drop f).drop j) = [] := by
      rw [List.drop_drop]
      cases ec : l[f + j]? with
      | none => rw [drop_end (by simpa using ec)]; rfl
      | some c => rw [drop_at ec, wrd_stop (hs c ec)]
    rw [this, List.append_nil]
  have hle := trim_le ((l.drop f).take j)
  have hl2 : ((l.drop f).take j).length = j := by
    rw [List.length_take, List.length_drop]
    have := h.le
    omega
  have ht := trim_take ((l.drop f).take j)
  have hfill := h.fill
  obtain ⟨n, hn⟩ : ∃ n, n = (trimR ((l.drop f).take j)).length := ⟨_, rfl⟩
  rw [← hn] at ht hle hfill
  have hl3 := h.le
  refine ⟨?_, by rw [e]; exact hl2, by omega, by omega⟩
  rw [e, ht, List.take_take, Nat.min_eq_left (by omega), hfill, List.drop_take, show f + n - f = n by omega]
set_option maxRecDepth 100000 in
set_option maxHeartbeats 8000000 in
theorem up_is (s t : ByteArray) (hz : t.size ≤ 1048576) (i : Int) (w : World) : Calls Try.prog 24 #[.string s, .string t, .int .i64 i] w (UpAns (upF (fun c => s.data.toList.contains c) t.data.toList i) w) := by
  have HSZ := Lib.hid (tk_size_of (s := t) rfl)
  have HZ := Lib.hid hz
  clear hz
  have HX := Lib.hid fun (W : World) => is_index t i W
  have HBL := Lib.hid fun (W : World) => blanks_is t (by have := HZ.out; omega) i W
  have HO := Lib.hid fun (k : Int) (W : World) => tk_one_of s t k W
  have HOB := Lib.hid fun (k : Int) (W : World) => tk_one_of ⟨#[32, 9]⟩ t k W
  obtain ⟨st, hst⟩ : ∃ st : UInt8 → Bool, st = fun c => s.data.toList.contains c := ⟨_, rfl⟩
  rw [← hst]
  unfold UpAns
  by_cases hv : 0 ≤ i ∧ i ≤ (t.size : Int)
  case neg =>
    have HB := Lib.hid (show upF st t.data.toList i = ([], i) from if_neg (fun h => hv ⟨h.1, by rw [HSZ.out]; exact h.2⟩))
    rw [show (decide (0 ≤ i) && decide (i ≤ (t.size : Int))) = false by rw [← Bool.decide_and]; exact decide_eq_false hv] at HX
    clear hv hst HO HOB HBL
    go_enter Try.func24, Try.ntmps24
    go_wp2_with fail
    refine tk_wp_scope_again 0 (fun _ _ => False) (fun _ _ => 0) rfl ?_ (fun _ _ h => h.elim)
    intro hp
    clear hp
    go_wp2_with fail
    go_at_call 40
    refine (HX.out _).mono ?_
    rintro e w1 ⟨rfl, rfl⟩
    go_wp2_with fail
    simp only [Exit.jump]
    go_ret2
    exact ⟨by rw [HB.out]; rfl, Below.refl _ _⟩
  case pos =>
  rw [show (decide (0 ≤ i) && decide (i ≤ (t.size : Int))) = true by rw [← Bool.decide_and]; exact decide_eq_true hv] at HX
  obtain ⟨k, rfl⟩ : ∃ k : Nat, i = (k : Int) := ⟨i.toNat, by omega⟩
  obtain ⟨f, hf⟩ : ∃ f, f = k + blk (t.data.toList.drop k) := ⟨_, rfl⟩
  have hfl : f ≤ t.data.toList.length := by
    have := blk_le (t.data.toList.drop k)
    rw [List.length_drop] at this
    have := HSZ.out
    omega
  have hbf : blanksF t.data.toList (k : Int) = (f : Int) := by
    unfold blanksF
    rw [if_pos (by omega), Int.toNat_natCast, hf]
    omega
  rw [hbf] at HBL
  obtain ⟨r, hr⟩ : ∃ r, r = upF st t.data.toList (k : Int) := ⟨_, rfl⟩
  rw [← hr]
  have HR := Lib.hid (show r = (trimR (wrd st (t.data.toList.drop f)), ((f + (wrd st (t.data.toList.drop f)).length : Nat) : Int)) by
    rw [hr]
    unfold upF
    rw [if_pos ⟨by omega, by rw [← HSZ.out]; exact hv.2⟩, Int.toNat_natCast, ← hf]
    congr 1
    omega)
  have HS := Lib.hid (UpJ.zero (st := st) hfl)
  have HST := Lib.hid hst
  clear hv hf hfl hbf hr hst
  go_enter Try.func24, Try.ntmps24
  go_wp2_with fail
  refine tk_wp_scope_again 0 (fun a' w' => w = w' ∧ ∃ (j E g : Nat), Hid (UpJ st t.data.toList f j g ∧ E = f + j) ∧ ∃ u : Nat → Value, a' = { tmps := #[.string s, .string t, .int .i64 (k : Int), undef, undef, undef, .string ⟨#[]⟩, .int .i64 0, .int .i64 (f : Int), .int .i64 (E : Int), .int .i64 (g : Int), u 11, u 12, u 13, u 14, u 15, u 16, u 17, u 18, u 19, u 20, u 21, u 22, u 23, u 24, u 25, u 26, u 27, u 28, u 29, u 30, u 31, u 32, u 33, u 34, u 35, u 36, u 37, u 38, u 39, u 40, u 41, u 42, u 43, u 44], defers := [] }) (fun a' _ => t.size + 1 - (intOf (a'.tmps.getD 9 undef)).toNat) rfl ?_ ?_
  · intro hp
    have HP := Lib.hid hp
    clear hp
    go_wp2_with fail
    go_at_call 40
    refine (HX.out _).mono ?_
    rintro e w1 ⟨rfl, rfl⟩
    go_wp2_with fail
    go_at_call 22
    refine (HBL.out _).mono ?_
    rintro e w1 ⟨rfl, rfl⟩
    go_wp2_with fail
    go_step3
    simp only [Exit.then]
    rename_i hK
    exact hK _ _ (HP.out _ _ ⟨rfl, 0, f, f, Lib.hid ⟨HS.out, rfl⟩, actG (by kernel_rfl)⟩)
  · rintro a' wr ⟨rfl, j, E, g, HJ, u, rfl⟩
    have hEle : E ≤ t.size := by have := HJ.out.1.le; have := HJ.out.2; have := HSZ.out; omega
    have hEi : (E : Int) ≤ 1048576 := by have := HZ.out; omega
    by_cases hex : E = t.size ∨ ∃ c, t.data.toList[E]? = some c ∧ st c = true
    · have hss : ∀ c, t.data.toList[f + j]? = some c → st c = true := by
        intro c hc
        rw [← HJ.out.2] at hc
        rcases hex with hex | ⟨c', hc', hs'⟩
        · have h1 := (List.getElem?_eq_some_iff.1 hc).1
          rw [← HSZ.out] at h1
          omega
        · rw [hc] at hc'; injection hc' with hc'; rw [hc']; exact hs'
      obtain ⟨hT, hlw, hfg, hgl⟩ := HJ.out.1.stop hss
      have HE := Lib.hid (show r = ((t.data.toList.take g).drop f, (E : Int)) by rw [HR.out, hT, hlw, HJ.out.2])
      have hsl := fun (W : World) => str_slice (s := t) (l := t.data.toList) (txt_of t).symm hfg hgl W
      have HCL := Lib.hid fun (W : World) => st_clone (txt ((t.data.toList.take g).drop f)) W (by
        rw [size_txt, List.length_drop, List.length_take]
        have := HSZ.out; have := HZ.out; omega)
      obtain ⟨X, hX⟩ : ∃ X, X = txt ((t.data.toList.take g).drop f) := ⟨_, rfl⟩
      rw [← hX] at HCL
      simp only [← hX] at hsl
      have HXX := Lib.hid hX
      by_cases hE : E = t.size
      · have gE : ((E : Int) == (t.size : Int)) = true := by rw [hE, beq_self_eq_true]
        clear hex hss hT hlw hfg hgl hX hE hEle
        go_wp2_with fail
        go_at_call 41
        refine (HCL.out _).mono ?_
        rintro e w1 ⟨rfl, hb⟩
        have HB := Lib.hid hb
        clear hb
        go_wp2_with fail
        simp only [Exit.jump]
        go_ret2
        exact ⟨by rw [HE.out, HXX.out]; rfl, HB.out⟩
      · have gE : ((E : Int) == (t.size : Int)) = false := by rw [beq_eq_false_iff_ne]; omega
        have hoj := HO.out (E : Int)
        rw [show oneF s.data.toList t.data.toList (E : Int) = true by
          rcases hex with hex | ⟨c', hc', hs'⟩
          · exact absurd hex hE
          · rw [oneF_at hc']; rw [HST.out] at hs'; exact hs'] at hoj
        have HOJ := Lib.hid hoj
        clear hex hss hT hlw hfg hgl hX hE hEle hoj
        go_wp2_with fail
        go_at_call 38
        refine (HOJ.out _).mono ?_
        rintro e w1 ⟨rfl, rfl⟩
        go_wp2_with fail
        go_at_call 41
        refine (HCL.out _).mono ?_
        rintro e w1 ⟨rfl, hb⟩
        have HB := Lib.hid hb
        clear hb
        go_wp2_with fail
        simp only [Exit.jump]
        go_ret2
        exact ⟨by rw [HE.out, HXX.out]; rfl, HB.out⟩
    · have hE : E ≠ t.size := fun h => hex (.inl h)
      have gE : ((E : Int) == (t.size : Int)) = false := by rw [beq_eq_false_iff_ne]; omega
      obtain ⟨c, hc⟩ : ∃ c, t.data.toList[E]? = some c := ⟨_, List.getElem?_eq_getElem (by rw [← HSZ.out]; omega)⟩
      have hs : st c = false := by
        cases h : st c with
        | false => rfl
        | true => exact absurd (.inr ⟨c, hc, h⟩) hex
      have hoj := HO.out (E : Int)
      rw [show oneF s.data.toList t.data.toList (E : Int) = false by rw [oneF_at hc]; rw [HST.out] at hs; exact hs] at hoj
      have HOJ := Lib.hid hoj
      have hob := HOB.out (E : Int)
      rw [show oneF (⟨#[32, 9]⟩ : ByteArray).data.toList t.data.toList (E : Int) = isBl c by rw [oneF_at hc]; exact bl_of c] at hob
      have HG := Lib.hid (HJ.out.1.go (by rw [← HJ.out.2]; exact hc) hs)
      obtain ⟨E1, hE1⟩ : ∃ E1, E1 = E + 1 := ⟨_, rfl⟩
      have hwE := addU (by have := HZ.out; omega) hE1
      have HML := Lib.hid (show t.size + 1 - E1 < t.size + 1 - E by omega)
      have HE1 := Lib.hid (show E1 = f + (j + 1) by have := HJ.out.2; omega)
      cases hb : isBl c with
      | true =>
        rw [hb, if_pos rfl] at HG
        rw [hb] at hob
        have HOBJ := Lib.hid hob
        clear hex hE hc hs hoj hob hE1 hb hEle hEi
        go_wp2_with fail
        go_at_call 38
        refine (HOJ.out _).mono ?_
        rintro e w1 ⟨rfl, rfl⟩
        go_wp2_with fail
        go_at_call 38
        refine (HOBJ.out _).mono ?_
        rintro e w1 ⟨rfl, rfl⟩
        go_wp2_with fail
        go_step3
        exact ⟨rfl, ⟨rfl, j + 1, E1, g, Lib.hid ⟨HG.out, HE1.out⟩, actG (by kernel_rfl)⟩, by simpa [intOf] using HML.out⟩
      | false =>
        rw [hb, if_neg (by simp), ← HJ.out.2, ← hE1] at HG
        rw [hb] at hob
        have HOBJ := Lib.hid hob
        clear hex hE hc hs hoj hob hE1 hb hEle hEi
        go_wp2_with fail
        go_at_call 38
        refine (HOJ.out _).mono ?_
        rintro e w1 ⟨rfl, rfl⟩
        go_wp2_with fail
        go_at_call 38
        refine (HOBJ.out _).mono ?_
        rintro e w1 ⟨rfl, rfl⟩
        go_wp2_with fail
        go_step3
        exact ⟨rfl, ⟨rfl, j + 1, E1, E1, Lib.hid ⟨HG.out, HE1.out⟩, actG (by kernel_rfl)⟩, by simpa [intOf] using HML.out⟩
end Go.Proofs.Ytncbmdbfdjhkeaa
