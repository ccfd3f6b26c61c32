/-
  The document's upTo, Word and Rest. Condition: a text of at most 2^20 bytes.
-/
import Derived.Test.YtkgpicalbpimdaaTkra
import Derived.Test.YtkgpicalbpimdaaTklin
namespace Go.Proofs.Ytkgpicalbpimdaa
open Go.RowKit Go.Deep

theorem u8_nyes (c : UInt8) (n : Nat) (h : c = UInt8.ofNat n) (hn : n < 256) : (((c.toNat : Nat) : Int) != (n : Int)) = false := by rw [bne, u8_yes c n h hn]; rfl
theorem u8_nno (c : UInt8) (n : Nat) (h : c ≠ UInt8.ofNat n) (hn : n < 256) : (((c.toNat : Nat) : Int) != (n : Int)) = true := by rw [bne, u8_no c n h hn]; rfl
theorem wrd_at {st : UInt8 → Bool} {l : List UInt8} {f j : Nat} (h : ∀ i, i < j → ∃ c, (l.drop f)[i]? = some c ∧ st c = false) (hs : ∀ c, l[f + j]? = some c → st c = true) : wrd st (l.drop f) = (l.drop f).take j := by
  rw [wrd_split h]
  have : wrd st ((l.drop f).drop j) = [] := by
    rw [List.drop_drop]
    cases ec : l[f + j]? with
    | none => rw [drop_end (by simpa using ec)]; rfl
    | some c => rw [drop_at ec, wrd_stop (hs c ec)]
  rw [this, List.append_nil]
structure DnJ (l : List UInt8) (f j K : Nat) : Prop where
  lo : f ≤ K
  hi : K ≤ f + j
  all : f + j ≤ l.length
  eq : trimR ((l.drop f).take (K - f)) = trimR ((l.drop f).take j)
theorem DnJ.start {l : List UInt8} {f j : Nat} (h : f + j ≤ l.length) : DnJ l f j (f + j) := ⟨by omega, by omega, h, by rw [show f + j - f = j by omega]⟩
theorem dn_snoc {l : List UInt8} {f K1 : Nat} {c : UInt8} (hf : f ≤ K1) (hc : l[K1]? = some c) : (l.drop f).take (K1 + 1 - f) = (l.drop f).take (K1 - f) ++ [c] := by
  rw [show K1 + 1 - f = (K1 - f) + 1 by omega, List.take_add_one, List.getElem?_drop, show f + (K1 - f) = K1 by omega, hc]
  rfl
theorem DnJ.go {l : List UInt8} {f j K K1 : Nat} (h : DnJ l f j K) (hk : K = K1 + 1) (hf : f ≤ K1) {c : UInt8} (hc : l[K1]? = some c) (hb : isBl c = true) : DnJ l f j K1 := by
  subst hk
  refine ⟨hf, by have := h.hi; omega, h.all, ?_⟩
  have e := h.eq
  rw [dn_snoc hf hc, trim_snoc, if_pos hb] at e
  exact e
theorem DnJ.stop {l : List UInt8} {f j K : Nat} (h : DnJ l f j K) (hs : K = f ∨ ∃ K1, K = K1 + 1 ∧ ∃ c, l[K1]? = some c ∧ isBl c = false) : (l.take K).drop f = trimR ((l.drop f).take j) := by
  rw [← h.eq, List.drop_take]
  by_cases hk : K = f
  · subst hk; simp [trim_nil]
  · rcases hs with hs | ⟨K1, rfl, c, hc, hb⟩
    · exact absurd hs hk
    · have hf : f ≤ K1 := by have := h.lo; omega
      rw [dn_snoc hf hc, trim_snoc, if_neg (by rw [hb]; simp)]
theorem up_out {st : UInt8 → Bool} {l : List UInt8} {i : Int} (h : ¬ (0 ≤ i ∧ i ≤ (l.length : Int))) : upF st l i = ([], i) := if_neg h
def upS (o : UInt8) (c : UInt8) : Bool := c == 10 || c == o
set_option maxRecDepth 100000 in
set_option maxHeartbeats 8000000 in
theorem rup_is (t : ByteArray) (hz : t.size ≤ 1048576) (i : Int) (o : UInt8) (w : World) : Calls Try.prog 29 #[.string t, .int .i64 i, .int .u8 (o.toNat : Int)] w (UpAns (upF (upS o) t.data.toList i) w) := by
  have HSZ := Lib.hid (size_of (s := t) rfl)
  have HZ := Lib.hid hz
  have HBL := Lib.hid fun (W : World) => rblanks_is t hz i W
  clear hz
  have HX := Lib.hid fun (W : World) => rplace_is t i W
  obtain ⟨st, hst⟩ : ∃ st : UInt8 → Bool, st = upS o := ⟨_, rfl⟩
  rw [← hst]
  have HST0 := Lib.hid hst
  clear hst
  unfold UpAns UpV
  by_cases hv : 0 ≤ i ∧ i ≤ (t.size : Int)
  case neg =>
    have HE := Lib.hid (up_out (st := st) (l := t.data.toList) (i := i) (fun h => hv ⟨h.1, by rw [HSZ.out]; exact h.2⟩))
    rw [show (decide (0 ≤ i) && decide (i ≤ (t.size : Int))) = false by rw [← Bool.decide_and]; exact decide_eq_false hv] at HX
    clear hv HBL
    go_enter Try.func29, Try.ntmps29
    go_wp2_with fail
    go_at_call 26
    refine (HX.out _).mono ?_
    rintro e w1 ⟨rfl, rfl⟩
    go_wp2_with fail
    go_ret2
    exact ⟨by rw [HE.out]; rfl, Below.refl _ _⟩
  case pos =>
  rw [show (decide (0 ≤ i) && decide (i ≤ (t.size : Int))) = true by rw [← Bool.decide_and]; exact decide_eq_true hv] at HX
  obtain ⟨k, rfl⟩ : ∃ k : Nat, i = (k : Int) := ⟨i.toNat, by omega⟩
  obtain ⟨f, hf⟩ : ∃ f, f = k + blk (t.data.toList.drop k) := ⟨_, rfl⟩
  have hfl : f ≤ t.data.toList.length := by
    have := blk_le (t.data.toList.drop k)
    rw [List.length_drop] at this
    have := HSZ.out
    omega
  have hbf : blanksF t.data.toList (k : Int) = (f : Int) := by
    unfold blanksF
    rw [if_pos (by omega), Int.toNat_natCast, hf]
    omega
  rw [hbf] at HBL
  obtain ⟨r, hr⟩ : ∃ r, r = upF st t.data.toList (k : Int) := ⟨_, rfl⟩
  rw [← hr]
  have HR := Lib.hid (show r = (trimR (wrd st (t.data.toList.drop f)), ((f + (wrd st (t.data.toList.drop f)).length : Nat) : Int)) by
    rw [hr]
    unfold upF
    rw [if_pos ⟨by omega, by rw [← HSZ.out]; exact hv.2⟩, Int.toNat_natCast, ← hf]
    congr 1
    omega)
  have HFL := Lib.hid hfl
  clear hv hf hfl hbf hr
  go_enter Try.func29, Try.ntmps29
  go_wp2_with fail
  go_at_call 26
  refine (HX.out _).mono ?_
  rintro e w1 ⟨rfl, rfl⟩
  go_wp2_with fail
  go_at_call 22
  refine (HBL.out _).mono ?_
  rintro e w1 ⟨rfl, rfl⟩
  go_wp2_with fail
  go_loopw [10] (fun v wr => ∃ j E : Nat, v = .int .i64 (E : Int) ∧ Hid (E = f + j ∧ E ≤ t.size ∧ f + j ≤ t.data.toList.length ∧ ∀ i, i < j → ∃ c, (t.data.toList.drop f)[i]? = some c ∧ st c = false) ∧ wr = w1) (fun v _ => t.size + 1 - (intOf v).toNat)
  case atStart => exact ⟨0, f, rfl, Lib.hid ⟨rfl, by rw [HSZ.out]; exact HFL.out, HFL.out, fun i hi => by omega⟩, rfl⟩
  case round =>
    obtain ⟨j, E, rfl, HJ, rfl⟩ := hrel
    clear HX HBL HFL
    by_cases hm : E < t.size
    · have gm : decide ((E : Int) < (t.size : Int)) = true := decide_eq_true (by omega)
      have hmi : (E : Int) < (t.size : Int) := by omega
      obtain ⟨c, hc⟩ : ∃ c, t.data.toList[E]? = some c := ⟨_, List.getElem?_eq_getElem (by simpa using hm)⟩
      have hat := at_of rfl hc
      have HSC := Lib.hid (show st c = (c == 10 || c == o) by rw [HST0.out]; rfl)
      by_cases h1 : c = 10
      · have q1 : ((c.toNat : Int) != 10) = false := u8_nyes c 10 h1 (by decide)
        have hst : ∀ c', t.data.toList[E]? = some c' → st c' = true := fun c' hc' => by
          rw [hc] at hc'; injection hc' with hc'; rw [← hc', HSC.out, h1]; rfl
        have HD0 := Lib.hid (DnJ.start (l := t.data.toList) HJ.out.2.2.1)
        rw [← HJ.out.1] at HD0
        have hE2 := HJ.out.2.1
        have HW := Lib.hid (show wrd st (t.data.toList.drop f) = (t.data.toList.drop f).take j from wrd_at HJ.out.2.2.2 (by rw [← HJ.out.1]; exact hst))
        have HR2 := Lib.hid (show r = (trimR ((t.data.toList.drop f).take j), (E : Int)) by
          rw [HR.out, HW.out]
          have h1 : ((t.data.toList.drop f).take j).length = j := by rw [List.length_take, List.length_drop]; have := HJ.out.2.2.1; omega
          rw [h1, HJ.out.1])
        clear hm hc h1 hst hE2
        go_wp2_with fail
        go_loopw [11] (fun v wz => ∃ K : Nat, v = .int .i64 (K : Int) ∧ Hid (DnJ t.data.toList f j K) ∧ wz = wr) (fun v _ => (intOf v).toNat)
        case atStart => exact ⟨E, rfl, HD0, rfl⟩
        case round =>
          obtain ⟨K, rfl, HK, rfl⟩ := hrel
          clear HD0 gm
          have hKl : K ≤ t.size := by rw [HSZ.out]; exact Nat.le_trans HK.out.hi HK.out.all
          have hfK := HK.out.lo
          have hsl := fun (W : World) => str_slice (s := t) (l := t.data.toList) (txt_of t).symm hfK (by rw [← HSZ.out]; exact hKl) W
          by_cases hk : f < K
          · have gk : decide ((K : Int) > (f : Int)) = true := decide_eq_true (by omega)
            have gki : (f : Int) < (K : Int) := by omega
            obtain ⟨K1, rfl⟩ : ∃ K1, K = K1 + 1 := ⟨K - 1, by omega⟩
            obtain ⟨c, hc⟩ : ∃ c, t.data.toList[K1]? = some c := ⟨_, List.getElem?_eq_getElem (by rw [← HSZ.out]; omega)⟩
            have hat := at_of rfl hc
            have hK1 : K1 < t.size := by omega
            have hK1i : (K1 : Int) < (t.size : Int) := by omega
            obtain ⟨K, hKK⟩ : ∃ K, K = K1 + 1 := ⟨_, rfl⟩
            rw [← hKK] at HK hsl gk gki ⊢
            have HWK := Lib.hid (show IntKind.i64.wrap ((K : Int) - 1) = (K1 : Int) by
              have := HZ.out
              rw [IntWalk.i64_in ((K : Int) - 1) (by omega)]; omega)
            have HGO := Lib.hid (fun hb : isBl c = true => HK.out.go hKK (by omega) hc hb)
            have HML := Lib.hid (show K1 < K by omega)
            have HST := Lib.hid (fun hb : isBl c = false => HK.out.stop (.inr ⟨K1, hKK, c, hc, hb⟩))
            by_cases h1 : c = 32
            · have q1 : ((c.toNat : Int) == 32) = true := u8_yes c 32 h1 (by decide)
              have HN := Lib.hid (HGO.out (by rw [h1]; rfl))
              have hwk := HWK.out
              clear h1 hc hKK hk hKl hfK hsl
              go_wp2_with fail
              exact ⟨⟨K1, rfl, HN, trivial⟩, by simpa [intOf] using HML.out⟩
            have q1 : ((c.toNat : Int) == 32) = false := u8_no c 32 h1 (by decide)
            by_cases h2 : c = 9
            · have q2 : ((c.toNat : Int) == 9) = true := u8_yes c 9 h2 (by decide)
              have HN := Lib.hid (HGO.out (by rw [h2]; rfl))
              have hwk := HWK.out
              clear h1 h2 hc hKK hk hKl hfK hsl
              go_wp2_with fail
              exact ⟨⟨K1, rfl, HN, trivial⟩, by simpa [intOf] using HML.out⟩
            · have q2 : ((c.toNat : Int) == 9) = false := u8_no c 9 h2 (by decide)
              have HE := Lib.hid (HST.out (by unfold isBl; rw [beq_eq_false_iff_ne.2 h1, beq_eq_false_iff_ne.2 h2]; rfl))
              have hwk := HWK.out
              clear h1 h2 hc hKK hk hKl hfK
              go_wp2_with fail
              go_ret2
              exact ⟨by rw [HR2.out, ← HE.out]; rfl, Below.refl _ _⟩
          · have gk : decide ((K : Int) > (f : Int)) = false := decide_eq_false (by omega)
            have gkn : decide (f < K) = false := decide_eq_false hk
            have gki : (K : Int) ≤ (f : Int) := by omega
            have HE := Lib.hid (HK.out.stop (.inl (by omega)))
            clear hk hKl hfK
            go_wp2_with fail
            go_ret2
            exact ⟨by rw [HR2.out, ← HE.out]; rfl, Below.refl _ _⟩

      have q1 : ((c.toNat : Int) != 10) = true := u8_nno c 10 h1 (by decide)
      by_cases h2 : c = o
      · have q2 : ((c.toNat : Int) != (o.toNat : Int)) = false := by rw [bne, u8_test c o.toNat o rfl, h2]; simp
        have hst : ∀ c', t.data.toList[E]? = some c' → st c' = true := fun c' hc' => by
          rw [hc] at hc'; injection hc' with hc'; rw [← hc', HSC.out, h2]; simp
        have HD0 := Lib.hid (DnJ.start (l := t.data.toList) HJ.out.2.2.1)
        rw [← HJ.out.1] at HD0
        have hE2 := HJ.out.2.1
        have HW := Lib.hid (show wrd st (t.data.toList.drop f) = (t.data.toList.drop f).take j from wrd_at HJ.out.2.2.2 (by rw [← HJ.out.1]; exact hst))
        have HR2 := Lib.hid (show r = (trimR ((t.data.toList.drop f).take j), (E : Int)) by
          rw [HR.out, HW.out]
          have h1 : ((t.data.toList.drop f).take j).length = j := by rw [List.length_take, List.length_drop]; have := HJ.out.2.2.1; omega
          rw [h1, HJ.out.1])
        clear hm hc h1 h2 hst hE2
        go_wp2_with fail
        go_loopw [11] (fun v wz => ∃ K : Nat, v = .int .i64 (K : Int) ∧ Hid (DnJ t.data.toList f j K) ∧ wz = wr) (fun v _ => (intOf v).toNat)
        case atStart => exact ⟨E, rfl, HD0, rfl⟩
        case round =>
          obtain ⟨K, rfl, HK, rfl⟩ := hrel
          clear HD0 gm
          have hKl : K ≤ t.size := by rw [HSZ.out]; exact Nat.le_trans HK.out.hi HK.out.all
          have hfK := HK.out.lo
          have hsl := fun (W : World) => str_slice (s := t) (l := t.data.toList) (txt_of t).symm hfK (by rw [← HSZ.out]; exact hKl) W
          by_cases hk : f < K
          · have gk : decide ((K : Int) > (f : Int)) = true := decide_eq_true (by omega)
            have gki : (f : Int) < (K : Int) := by omega
            obtain ⟨K1, rfl⟩ : ∃ K1, K = K1 + 1 := ⟨K - 1, by omega⟩
            obtain ⟨c, hc⟩ : ∃ c, t.data.toList[K1]? = some c := ⟨_, List.getElem?_eq_getElem (by rw [← HSZ.out]; omega)⟩
            have hat := at_of rfl hc
            have hK1 : K1 < t.size := by omega
            have hK1i : (K1 : Int) < (t.size : Int) := by omega
            obtain ⟨K, hKK⟩ : ∃ K, K = K1 + 1 := ⟨_, rfl⟩
            rw [← hKK] at HK hsl gk gki ⊢
            have HWK := Lib.hid (show IntKind.i64.wrap ((K : Int) - 1) = (K1 : Int) by
              have := HZ.out
              rw [IntWalk.i64_in ((K : Int) - 1) (by omega)]; omega)
            have HGO := Lib.hid (fun hb : isBl c = true => HK.out.go hKK (by omega) hc hb)
            have HML := Lib.hid (show K1 < K by omega)
            have HST := Lib.hid (fun hb : isBl c = false => HK.out.stop (.inr ⟨K1, hKK, c, hc, hb⟩))
            by_cases h1 : c = 32
            · have q1 : ((c.toNat : Int) == 32) = true := u8_yes c 32 h1 (by decide)
              have HN := Lib.hid (HGO.out (by rw [h1]; rfl))
              have hwk := HWK.out
              clear h1 hc hKK hk hKl hfK hsl
              go_wp2_with fail
              exact ⟨⟨K1, rfl, HN, trivial⟩, by simpa [intOf] using HML.out⟩
            have q1 : ((c.toNat : Int) == 32) = false := u8_no c 32 h1 (by decide)
            by_cases h2 : c = 9
            · have q2 : ((c.toNat : Int) == 9) = true := u8_yes c 9 h2 (by decide)
              have HN := Lib.hid (HGO.out (by rw [h2]; rfl))
              have hwk := HWK.out
              clear h1 h2 hc hKK hk hKl hfK hsl
              go_wp2_with fail
              exact ⟨⟨K1, rfl, HN, trivial⟩, by simpa [intOf] using HML.out⟩
            · have q2 : ((c.toNat : Int) == 9) = false := u8_no c 9 h2 (by decide)
              have HE := Lib.hid (HST.out (by unfold isBl; rw [beq_eq_false_iff_ne.2 h1, beq_eq_false_iff_ne.2 h2]; rfl))
              have hwk := HWK.out
              clear h1 h2 hc hKK hk hKl hfK
              go_wp2_with fail
              go_ret2
              exact ⟨by rw [HR2.out, ← HE.out]; rfl, Below.refl _ _⟩
          · have gk : decide ((K : Int) > (f : Int)) = false := decide_eq_false (by omega)
            have gkn : decide (f < K) = false := decide_eq_false hk
            have gki : (K : Int) ≤ (f : Int) := by omega
            have HE := Lib.hid (HK.out.stop (.inl (by omega)))
            clear hk hKl hfK
            go_wp2_with fail
            go_ret2
            exact ⟨by rw [HR2.out, ← HE.out]; rfl, Below.refl _ _⟩

      · have q2 : ((c.toNat : Int) != (o.toNat : Int)) = true := by rw [bne, u8_test c o.toNat o rfl, beq_eq_false_iff_ne.2 h2]; rfl
        obtain ⟨E1, hE1⟩ : ∃ E1, E1 = E + 1 := ⟨_, rfl⟩
        have HWE := Lib.hid (addU (by have := HZ.out; omega) hE1)
        have HML := Lib.hid (show t.size + 1 - E1 < t.size + 1 - E by omega)
        have HN := Lib.hid (show E1 = f + (j + 1) ∧ E1 ≤ t.size ∧ f + (j + 1) ≤ t.data.toList.length ∧ ∀ i, i < j + 1 → ∃ c, (t.data.toList.drop f)[i]? = some c ∧ st c = false from ⟨by have := HJ.out.1; omega, by omega, by rw [← HSZ.out]; have := HJ.out.1; omega, fun i hi => by
          by_cases e : i = j
          · subst e
            exact ⟨c, by rw [List.getElem?_drop, ← HJ.out.1]; exact hc, by rw [HSC.out, beq_eq_false_iff_ne.2 h1, beq_eq_false_iff_ne.2 h2]; rfl⟩
          · exact HJ.out.2.2.2 i (by omega)⟩)
        have hwE := HWE.out
        clear hm hc h1 h2 hE1
        go_wp2_with fail
        exact ⟨⟨j + 1, E1, rfl, HN, trivial⟩, by simpa [intOf] using HML.out⟩
    · have gm : decide ((E : Int) < (t.size : Int)) = false := decide_eq_false (by omega)
      have gmn : decide (E < t.size) = false := decide_eq_false hm
      have hge : (t.size : Int) ≤ (E : Int) := by omega
      have hst : ∀ c', t.data.toList[E]? = some c' → st c' = true := fun c' hc' => by
        have h1 := (List.getElem?_eq_some_iff.1 hc').1
        rw [← HSZ.out] at h1
        exact absurd h1 hm
      have HD0 := Lib.hid (DnJ.start (l := t.data.toList) HJ.out.2.2.1)
      rw [← HJ.out.1] at HD0
      have hE2 := HJ.out.2.1
      have HW := Lib.hid (show wrd st (t.data.toList.drop f) = (t.data.toList.drop f).take j from wrd_at HJ.out.2.2.2 (by rw [← HJ.out.1]; exact hst))
      have HR2 := Lib.hid (show r = (trimR ((t.data.toList.drop f).take j), (E : Int)) by
        rw [HR.out, HW.out]
        have h1 : ((t.data.toList.drop f).take j).length = j := by rw [List.length_take, List.length_drop]; have := HJ.out.2.2.1; omega
        rw [h1, HJ.out.1])
      clear hm hst hE2
      go_wp2_with fail
      go_loopw [11] (fun v wz => ∃ K : Nat, v = .int .i64 (K : Int) ∧ Hid (DnJ t.data.toList f j K) ∧ wz = wr) (fun v _ => (intOf v).toNat)
      case atStart => exact ⟨E, rfl, HD0, rfl⟩
      case round =>
        obtain ⟨K, rfl, HK, rfl⟩ := hrel
        clear HD0 gm
        have hKl : K ≤ t.size := by rw [HSZ.out]; exact Nat.le_trans HK.out.hi HK.out.all
        have hfK := HK.out.lo
        have hsl := fun (W : World) => str_slice (s := t) (l := t.data.toList) (txt_of t).symm hfK (by rw [← HSZ.out]; exact hKl) W
        by_cases hk : f < K
        · have gk : decide ((K : Int) > (f : Int)) = true := decide_eq_true (by omega)
          have gki : (f : Int) < (K : Int) := by omega
          obtain ⟨K1, rfl⟩ : ∃ K1, K = K1 + 1 := ⟨K - 1, by omega⟩
          obtain ⟨c, hc⟩ : ∃ c, t.data.toList[K1]? = some c := ⟨_, List.getElem?_eq_getElem (by rw [← HSZ.out]; omega)⟩
          have hat := at_of rfl hc
          have hK1 : K1 < t.size := by omega
          have hK1i : (K1 : Int) < (t.size : Int) := by omega
          obtain ⟨K, hKK⟩ : ∃ K, K = K1 + 1 := ⟨_, rfl⟩
          rw [← hKK] at HK hsl gk gki ⊢
          have HWK := Lib.hid (show IntKind.i64.wrap ((K : Int) - 1) = (K1 : Int) by
            have := HZ.out
            rw [IntWalk.i64_in ((K : Int) - 1) (by omega)]; omega)
          have HGO := Lib.hid (fun hb : isBl c = true => HK.out.go hKK (by omega) hc hb)
          have HML := Lib.hid (show K1 < K by omega)
          have HST := Lib.hid (fun hb : isBl c = false => HK.out.stop (.inr ⟨K1, hKK, c, hc, hb⟩))
          by_cases h1 : c = 32
          · have q1 : ((c.toNat : Int) == 32) = true := u8_yes c 32 h1 (by decide)
            have HN := Lib.hid (HGO.out (by rw [h1]; rfl))
            have hwk := HWK.out
            clear h1 hc hKK hk hKl hfK hsl
            go_wp2_with fail
            exact ⟨⟨K1, rfl, HN, trivial⟩, by simpa [intOf] using HML.out⟩
          have q1 : ((c.toNat : Int) == 32) = false := u8_no c 32 h1 (by decide)
          by_cases h2 : c = 9
          · have q2 : ((c.toNat : Int) == 9) = true := u8_yes c 9 h2 (by decide)
            have HN := Lib.hid (HGO.out (by rw [h2]; rfl))
            have hwk := HWK.out
            clear h1 h2 hc hKK hk hKl hfK hsl
            go_wp2_with fail
            exact ⟨⟨K1, rfl, HN, trivial⟩, by simpa [intOf] using HML.out⟩
          · have q2 : ((c.toNat : Int) == 9) = false := u8_no c 9 h2 (by decide)
            have HE := Lib.hid (HST.out (by unfold isBl; rw [beq_eq_false_iff_ne.2 h1, beq_eq_false_iff_ne.2 h2]; rfl))
            have hwk := HWK.out
            clear h1 h2 hc hKK hk hKl hfK
            go_wp2_with fail
            go_ret2
            exact ⟨by rw [HR2.out, ← HE.out]; rfl, Below.refl _ _⟩
        · have gk : decide ((K : Int) > (f : Int)) = false := decide_eq_false (by omega)
          have gkn : decide (f < K) = false := decide_eq_false hk
          have gki : (K : Int) ≤ (f : Int) := by omega
          have HE := Lib.hid (HK.out.stop (.inl (by omega)))
          clear hk hKl hfK
          go_wp2_with fail
          go_ret2
          exact ⟨by rw [HR2.out, ← HE.out]; rfl, Below.refl _ _⟩

theorem upS_W : upS 59 = endW := by
  funext c
  unfold upS endW
  simp only [List.contains, List.elem]
  cases c == 10 <;> cases c == 59 <;> rfl
theorem upS_R : upS 10 = endR := by
  funext c
  unfold upS endR
  simp only [List.contains, List.elem]
  cases c == 10 <;> rfl
set_option maxRecDepth 100000 in
theorem rword_is (t : ByteArray) (hz : t.size ≤ 1048576) (i : Int) (w : World) : Calls Try.prog 16 #[.string t, .int .i64 i] w (UpAns (upF endW t.data.toList i) w) := by
  have H : Hid (∀ W : World, Calls Try.prog 29 #[.string t, .int .i64 i, .int .u8 59] W (UpAns (upF endW t.data.toList i) W)) := Lib.hid fun (W : World) => by
    have := rup_is t hz i 59 W
    rw [upS_W] at this
    exact this
  obtain ⟨⟨p, q⟩, hp⟩ : ∃ p, p = upF endW t.data.toList i := ⟨_, rfl⟩
  rw [← hp] at H ⊢
  clear hp hz
  unfold UpAns UpV at H ⊢
  go_enter Try.func16, Try.ntmps16
  go_wp2_with fail
  go_at_call 29
  refine (H.out _).mono ?_
  rintro e w1 ⟨rfl, hb⟩
  have HB := Lib.hid hb
  clear hb
  go_wp2_with fail
  go_ret2
  exact ⟨rfl, HB.out⟩
set_option maxRecDepth 100000 in
theorem rrest_is (t : ByteArray) (hz : t.size ≤ 1048576) (i : Int) (w : World) : Calls Try.prog 18 #[.string t, .int .i64 i] w (UpAns (upF endR t.data.toList i) w) := by
  have H : Hid (∀ W : World, Calls Try.prog 29 #[.string t, .int .i64 i, .int .u8 10] W (UpAns (upF endR t.data.toList i) W)) := Lib.hid fun (W : World) => by
    have := rup_is t hz i 10 W
    rw [upS_R] at this
    exact this
  obtain ⟨⟨p, q⟩, hp⟩ : ∃ p, p = upF endR t.data.toList i := ⟨_, rfl⟩
  rw [← hp] at H ⊢
  clear hp hz
  unfold UpAns UpV at H ⊢
  go_enter Try.func18, Try.ntmps18
  go_wp2_with fail
  go_at_call 29
  refine (H.out _).mono ?_
  rintro e w1 ⟨rfl, hb⟩
  have HB := Lib.hid hb
  clear hb
  go_wp2_with fail
  go_ret2
  exact ⟨rfl, HB.out⟩
end Go.Proofs.Ytkgpicalbpimdaa
