/-
  TokenNumbers: it returns true and turns nothing that was there. No condition.
-/
import Derived.Test.YtkgpicalbpimdaaTkalv
import Derived.Test.YtkgpicalbpimdaaTkrn
import Derived.Test.YtkgpicalbpimdaaTkrl
namespace Go.Proofs.Ytkgpicalbpimdaa
open Go.RowKit Go.Deep

theorem val_fold (l : List UInt8) (n : Nat) : l.foldl (fun n c => 10 * n + (c.toNat - 48)) n = n * 10 ^ l.length + val l := by
  induction l generalizing n with
  | nil => simp [val]
  | cons c r ih =>
    unfold val
    rw [List.foldl_cons, List.foldl_cons, ih, ih (10 * 0 + (c.toNat - 48)), List.length_cons, Nat.pow_succ, Nat.add_mul, Nat.add_mul]
    rw [Nat.mul_comm 10 n, Nat.mul_assoc, Nat.mul_comm 10 (10 ^ r.length), ← Nat.mul_assoc]
    omega
theorem val_cons (c : UInt8) (l : List UInt8) : val (c :: l) = (c.toNat - 48) * 10 ^ l.length + val l := by
  have := val_fold l (10 * 0 + (c.toNat - 48))
  unfold val at this ⊢
  rw [List.foldl_cons, this]
  simp
/-- D are figures, K what is ahead of them. -/
structure DigJ (n : Nat) (D : List UInt8) (K : Nat) : Prop where
  all : ∀ c ∈ D, isDg c = true
  sum : val D + K * 10 ^ D.length = n
  len : D.length ≤ 9
theorem DigJ.start (n : Nat) : DigJ n [] n := ⟨by simp, by simp [val], by simp⟩
theorem DigJ.kle {n K : Nat} {D : List UInt8} (h : DigJ n D K) : K ≤ n := by
  have h1 := h.sum
  have h2 : K * 1 ≤ K * 10 ^ D.length := Nat.mul_le_mul_left _ (Nat.pow_pos (by omega))
  omega
theorem DigJ.step {n K : Nat} {D : List UInt8} (h : DigJ n D K) (hn : n ≤ 999999999) (hor : 0 < K ∨ D = []) : DigJ n (UInt8.ofNat (48 + K % 10) :: D) (K / 10) := by
  have hc : (UInt8.ofNat (48 + K % 10)).toNat = 48 + K % 10 := by rw [UInt8.toNat_ofNat']; omega
  refine ⟨fun c hc' => ?_, ?_, ?_⟩
  · rcases List.mem_cons.1 hc' with rfl | h'
    · unfold isDg
      rw [hc]
      simp only [Bool.and_eq_true, decide_eq_true_eq]
      omega
    · exact h.all c h'
  · rw [val_cons, hc, List.length_cons, Nat.pow_succ, ← h.sum]
    have e : K * 10 ^ D.length = (K % 10) * 10 ^ D.length + K / 10 * (10 ^ D.length * 10) := by
      rw [Nat.mul_comm (10 ^ D.length) 10, ← Nat.mul_assoc, ← Nat.add_mul]
      congr 1
      omega
    rw [e]
    have : 48 + K % 10 - 48 = K % 10 := by omega
    rw [this]
    omega
  · rw [List.length_cons]
    by_cases hK : K = 0
    · rcases hor with hor | rfl
      · omega
      · simp
    · have h1 := h.sum
      have h2 : 1 * 10 ^ D.length ≤ K * 10 ^ D.length := Nat.mul_le_mul_right _ (by omega)
      by_cases hD : D.length ≤ 8
      · omega
      · have h3 : 10 ^ 9 ≤ 10 ^ D.length := Nat.pow_le_pow_right (by omega) (by omega)
        have h4 : (10 : Nat) ^ 9 = 1000000000 := by decide
        omega
theorem fig_at {r : Nat} (h : r < 10) : (⟨#[48, 49, 50, 51, 52, 53, 54, 55, 56, 57]⟩ : ByteArray).data.toList[r]? = some (UInt8.ofNat (48 + r)) := by
  have : ∀ r : Fin 10, ([48, 49, 50, 51, 52, 53, 54, 55, 56, 57] : List UInt8)[r.val]? = some (UInt8.ofNat (48 + r.val)) := by decide
  exact this ⟨r, h⟩
theorem num_sizes {a b S : ByteArray} (ha : a.size ≤ 300) (hb : b.size ≤ 300) (hs : S.size ≤ 9) : (a ++ S ++ b).size ≤ 140737488355328 ∧ (a ++ S).size ≤ 309 := by
  have e1 : (a ++ S).size = a.size + S.size := by simp
  have e2 : (a ++ S ++ b).size = a.size + S.size + b.size := by simp
  rw [e1, e2]
  omega
theorem cat_list (a b c : ByteArray) : (a ++ b ++ c).data.toList = a.data.toList ++ b.data.toList ++ c.data.toList := by simp
theorem dg_same {D b : List UInt8} (hD : ∀ c ∈ D, isDg c = true) (hb : ∀ c, b[0]? = some c → isDg c = false) : dg (D ++ b) = D.length := by
  have h := dg_split (D ++ b) D.length (fun i hi => ⟨D[i], by rw [List.getElem?_append_left hi, List.getElem?_eq_getElem hi], hD _ (List.getElem_mem hi)⟩)
  rw [h, List.drop_left]
  cases b with
  | nil => rfl
  | cons c r => rw [dg_no (hb c rfl)]; omega
theorem num_here {a b S : ByteArray} {n K : Nat} {x : UInt8} {E : List UInt8} (hb : ∀ c, b.data.toList[0]? = some c → isDg c = false) (hS : S = txt (x :: E)) (h0 : DigJ n (x :: E) K) (hK : K = 0) : numF (a ++ S ++ b).data.toList (a.size : Int) = (n, (a.size : Int) + (S.size : Int), true) := by
  have hl : (a ++ S ++ b).data.toList.drop a.size = (x :: E) ++ b.data.toList := by
    rw [cat_list, List.append_assoc, size_of (s := a) rfl, List.drop_left, hS]
    simp [txt]
  subst hK
  have h := h0
  have hd := dg_same h.all hb
  have hv : val (x :: E) = n := by have := h.sum; simpa using this
  have hsz : S.size = (x :: E).length := by rw [hS, size_txt]
  unfold numF
  rw [if_pos (by omega), Int.toNat_natCast, hl, hd, if_pos ⟨by simp, h.len⟩, List.take_left, hv, hsz]
theorem num_ten {a b : ByteArray} : numF (a ++ ⟨#[49, 50, 51, 52, 53, 54, 55, 56, 57, 48]⟩ ++ b).data.toList (a.size : Int) = (0, (a.size : Int), false) := by
  have hl : (a ++ ⟨#[49, 50, 51, 52, 53, 54, 55, 56, 57, 48]⟩ ++ b).data.toList.drop a.size = [49, 50, 51, 52, 53, 54, 55, 56, 57, 48] ++ b.data.toList := by
    rw [cat_list, List.append_assoc, size_of (s := a) rfl, List.drop_left]
  have h := dg_split ([49, 50, 51, 52, 53, 54, 55, 56, 57, 48] ++ b.data.toList) 10 (fun i hi => by
    have : ∀ i : Fin 10, ∃ c, ([49, 50, 51, 52, 53, 54, 55, 56, 57, 48] : List UInt8)[i.val]? = some c ∧ isDg c = true := by
      intro i
      match i with
      | 0 => exact ⟨_, rfl, rfl⟩
      | 1 => exact ⟨_, rfl, rfl⟩
      | 2 => exact ⟨_, rfl, rfl⟩
      | 3 => exact ⟨_, rfl, rfl⟩
      | 4 => exact ⟨_, rfl, rfl⟩
      | 5 => exact ⟨_, rfl, rfl⟩
      | 6 => exact ⟨_, rfl, rfl⟩
      | 7 => exact ⟨_, rfl, rfl⟩
      | 8 => exact ⟨_, rfl, rfl⟩
      | 9 => exact ⟨_, rfl, rfl⟩
    obtain ⟨c, hc, hd⟩ := this ⟨i, hi⟩
    exact ⟨c, by rw [List.getElem?_append_left (by simpa using hi)]; exact hc, hd⟩)
  unfold numF
  rw [if_pos (by omega), Int.toNat_natCast, hl, if_neg (by omega)]
set_option maxRecDepth 100000 in
set_option maxHeartbeats 8000000 in
theorem nums_walk (n : Int) (a b : ByteArray) (w : World) : Calls Try.prog 8 #[.int .i64 n, .string a, .string b] w (Alv w) := by
  have HAL := Lib.hid fun (W : World) => alive_is W
  unfold Alv at HAL ⊢
  by_cases h0 : n < 0
  · have g : decide (n < 0) = true := decide_eq_true h0
    clear h0
    go_enter Try.func8, Try.ntmps8
    go_wp2_with fail
    go_at_call 10
    refine (HAL.out _).mono ?_
    rintro e w1 ⟨rfl, hb⟩
    have HB := Lib.hid hb
    clear hb
    go_wp2_with fail
    go_ret
    exact ⟨rfl, HB.out⟩
  have gn1 : decide (n < 0) = false := decide_eq_false h0
  have gn1i : 0 ≤ n := by omega
  by_cases h9 : n > 999999999
  · have g : decide (n > 999999999) = true := decide_eq_true h9
    clear h0 h9
    go_enter Try.func8, Try.ntmps8
    go_wp2_with fail
    go_at_call 10
    refine (HAL.out _).mono ?_
    rintro e w1 ⟨rfl, hb⟩
    have HB := Lib.hid hb
    clear hb
    go_wp2_with fail
    go_ret
    exact ⟨rfl, HB.out⟩
  have gn2 : decide (n > 999999999) = false := decide_eq_false h9
  have gn2i : n ≤ 999999999 := by omega
  by_cases ha : a.size ≤ 300
  case neg =>
    have g : decide ((a.size : Int) > 300) = true := decide_eq_true (by omega)
    have gn : decide (300 < a.size) = true := decide_eq_true (by omega)
    clear h0 h9 ha
    go_enter Try.func8, Try.ntmps8
    go_wp2_with fail
    go_at_call 10
    refine (HAL.out _).mono ?_
    rintro e w1 ⟨rfl, hb⟩
    have HB := Lib.hid hb
    clear hb
    go_wp2_with fail
    go_ret
    exact ⟨rfl, HB.out⟩
  case pos =>
  have ga : decide ((a.size : Int) > 300) = false := decide_eq_false (by omega)
  have gan : decide (300 < a.size) = false := decide_eq_false (by omega)
  have gai : (a.size : Int) ≤ 300 := by omega
  by_cases hb : b.size ≤ 300
  case neg =>
    have g : decide ((b.size : Int) > 300) = true := decide_eq_true (by omega)
    have gn : decide (300 < b.size) = true := decide_eq_true (by omega)
    clear h0 h9 ha hb
    go_enter Try.func8, Try.ntmps8
    go_wp2_with fail
    go_at_call 10
    refine (HAL.out _).mono ?_
    rintro e w1 ⟨rfl, hb⟩
    have HB := Lib.hid hb
    clear hb
    go_wp2_with fail
    go_ret
    exact ⟨rfl, HB.out⟩
  case pos =>
  have gb : decide ((b.size : Int) > 300) = false := decide_eq_false (by omega)
  have gbn : decide (300 < b.size) = false := decide_eq_false (by omega)
  have gbi : (b.size : Int) ≤ 300 := by omega
  obtain ⟨nn, hnn⟩ : ∃ nn : Nat, (nn : Int) = n := ⟨n.toNat, by omega⟩
  have HNN := Lib.hid (show (nn : Int) = n ∧ nn ≤ 999999999 from ⟨hnn, by omega⟩)
  have HSA := Lib.hid ha
  have HSB := Lib.hid hb
  have HN2 := Lib.hid (fun (W : World) => number_is (a ++ ⟨#[49, 50, 51, 52, 53, 54, 55, 56, 57, 48]⟩ ++ b) (by have e : (a ++ (⟨#[49, 50, 51, 52, 53, 54, 55, 56, 57, 48]⟩ : ByteArray) ++ b).size = a.size + 10 + b.size := (by simp; rfl); rw [e]; omega) (a.size : Int) (by omega) (by omega) W)
  rw [num_ten] at HN2
  unfold NumV at HN2
  simp only [] at HN2
  have HL10 := Lib.hid (show (a ++ ⟨#[49, 50, 51, 52, 53, 54, 55, 56, 57, 48]⟩).size ≤ 310 ∧ (a ++ ⟨#[49, 50, 51, 52, 53, 54, 55, 56, 57, 48]⟩).size ≤ 310 by
    have e : (a ++ (⟨#[49, 50, 51, 52, 53, 54, 55, 56, 57, 48]⟩ : ByteArray)).size = a.size + 10 := by simp; rfl
    rw [e]; omega)
  clear hnn h0 h9 ha hb
  by_cases hb0 : 0 < b.size
  case neg =>
    have HNB := Lib.hid (show ∀ c, b.data.toList[0]? = some c → isDg c = false from fun c hc => by
      have h1 := (List.getElem?_eq_some_iff.1 hc).1
      rw [← size_of (s := b) rfl] at h1
      exact absurd h1 hb0)
    have GX := Lib.hid True.intro
    have HAT0 := Lib.hid True.intro
    have g0 : decide ((b.size : Int) > 0) = false := decide_eq_false (by omega)
    have g0n : decide (0 < b.size) = false := decide_eq_false hb0
    have g0i : (b.size : Int) ≤ 0 := by omega
    clear hb0 HAT0
    go_enter Try.func8, Try.ntmps8
    go_upto_region 3 with fail
    clear gn1 gn1i gn2 gn2i ga gan gai gb gbn gbi GX
    go_wp2_with fail
    go_loopw [7, 8] (fun sv kv wz => ∃ (D : List UInt8) (K : Nat) (S : ByteArray), kv = .int .i64 (K : Int) ∧ sv = .string S ∧ Hid (S = txt D ∧ DigJ nn D K) ∧ wz = w) (fun sv kv _ => 2 * (intOf kv).toNat + (match sv with | .string S => if S.size = 0 then 1 else 0 | _ => 0))
    case atStart => exact ⟨[], nn, _, by rw [HNN.out.1], rfl, Lib.hid ⟨rfl, DigJ.start nn⟩, rfl⟩
    case round =>
      obtain ⟨D, K, S, rfl, rfl, HJ, rfl⟩ := hrel
      have hSS : S.size ≤ 9 := by rw [HJ.out.1, size_txt]; exact HJ.out.2.len
      by_cases hk : 0 < K
      · have gk : decide ((K : Int) > 0) = true := decide_eq_true (by omega)
        have gki : (0 : Int) < (K : Int) := by omega
        obtain ⟨q, hq⟩ : ∃ q, q = K / 10 := ⟨_, rfl⟩
        obtain ⟨rr, hr⟩ : ∃ rr, rr = K % 10 := ⟨_, rfl⟩
        obtain ⟨r1, hr1⟩ : ∃ r1, r1 = rr + 1 := ⟨_, rfl⟩
        have HRR := Lib.hid (show rr < 10 by omega)
        have hqI : (K : Int).tdiv 10 = (q : Int) := by rw [hq]; rfl
        have hrI : (K : Int).tmod 10 = (rr : Int) := by rw [hr]; rfl
        have HKN := Lib.hid (HJ.out.2.kle)
        have HKQ := Lib.hid (show q ≤ K ∧ (0 < K → q < K) by rw [hq]; omega)
        have HQ : Hid (IntKind.i64.wrap (q : Int) = (q : Int) ∧ IntKind.i64.wrap (rr : Int) = (rr : Int)) := Lib.hid ⟨IntWalk.i64_in _ (by have := HKN.out; have := HNN.out.2; omega), IntWalk.i64_in _ (by have := HRR.out; omega)⟩
        have HQ2 : Hid (wrap64 (q : Int) = (q : Int) ∧ wrap64 (rr : Int) = (rr : Int)) := Lib.hid ⟨IntWalk.wrap64_in _ (by have := HKN.out; have := HNN.out.2; omega), IntWalk.wrap64_in _ (by have := HRR.out; omega)⟩
        have HR1 := Lib.hid (show IntKind.i64.wrap ((rr : Int) + 1) = (r1 : Int) by rw [IntWalk.i64_in ((rr : Int) + 1) (by have := HRR.out; omega)]; omega)
        have hsl := fun W => one_slice (t := ⟨#[48, 49, 50, 51, 52, 53, 54, 55, 56, 57]⟩) (fig_at HRR.out) hr1 W
        obtain ⟨X, hX⟩ : ∃ X, X = txt [UInt8.ofNat (48 + rr)] := ⟨_, rfl⟩
        rw [← hX] at hsl
        have hXs : X.size ≤ 1 := by rw [hX, size_txt]; simp
        have HXs := Lib.hid (show X.size = 1 by rw [hX, size_txt]; rfl)
        have HN := Lib.hid (show X ++ S = txt (UInt8.ofNat (48 + rr) :: D) ∧ DigJ nn (UInt8.ofNat (48 + rr) :: D) q from ⟨by rw [HJ.out.1, hX, txt_append]; rfl, by rw [hq, hr]; exact HJ.out.2.step HNN.out.2 (.inl hk)⟩)
        have HSZ1 := Lib.hid (show ¬ (X ++ S).size = 0 by rw [HN.out.1, size_txt]; simp)
        have HML := Lib.hid (show 2 * q + 0 < 2 * K + (if (S : ByteArray).size = 0 then 1 else 0) by have := HKQ.out;  omega)
        have hq1 := HQ.out.1
        have hq2 := HQ.out.2
        have hq3 := HQ2.out.1
        have hq4 := HQ2.out.2
        have hr2 := HR1.out
        clear hk hq hr hr1 hX
        go_wp2_with fail
        exact ⟨⟨_, q, _, rfl, rfl, HN, trivial⟩, by simp only [intOf, Int.toNat_natCast, if_neg HSZ1.out]; exact HML.out⟩

      have gk : decide ((K : Int) > 0) = false := decide_eq_false (by omega)
      have gkn : decide (0 < K) = false := decide_eq_false (by omega)
      have gki : (K : Int) ≤ 0 := by omega
      have HK0 := Lib.hid (show K = 0 by omega)
      cases D with
      | nil =>
        have hS0 : S = ⟨#[]⟩ := HJ.out.1
        subst hS0
        obtain ⟨q, hq⟩ : ∃ q, q = K / 10 := ⟨_, rfl⟩
        obtain ⟨rr, hr⟩ : ∃ rr, rr = K % 10 := ⟨_, rfl⟩
        obtain ⟨r1, hr1⟩ : ∃ r1, r1 = rr + 1 := ⟨_, rfl⟩
        have HRR := Lib.hid (show rr < 10 by omega)
        have hqI : (K : Int).tdiv 10 = (q : Int) := by rw [hq]; rfl
        have hrI : (K : Int).tmod 10 = (rr : Int) := by rw [hr]; rfl
        have HKN := Lib.hid (HJ.out.2.kle)
        have HKQ := Lib.hid (show q ≤ K ∧ (0 < K → q < K) by rw [hq]; omega)
        have HQ : Hid (IntKind.i64.wrap (q : Int) = (q : Int) ∧ IntKind.i64.wrap (rr : Int) = (rr : Int)) := Lib.hid ⟨IntWalk.i64_in _ (by have := HKN.out; have := HNN.out.2; omega), IntWalk.i64_in _ (by have := HRR.out; omega)⟩
        have HQ2 : Hid (wrap64 (q : Int) = (q : Int) ∧ wrap64 (rr : Int) = (rr : Int)) := Lib.hid ⟨IntWalk.wrap64_in _ (by have := HKN.out; have := HNN.out.2; omega), IntWalk.wrap64_in _ (by have := HRR.out; omega)⟩
        have HR1 := Lib.hid (show IntKind.i64.wrap ((rr : Int) + 1) = (r1 : Int) by rw [IntWalk.i64_in ((rr : Int) + 1) (by have := HRR.out; omega)]; omega)
        have hsl := fun W => one_slice (t := ⟨#[48, 49, 50, 51, 52, 53, 54, 55, 56, 57]⟩) (fig_at HRR.out) hr1 W
        obtain ⟨X, hX⟩ : ∃ X, X = txt [UInt8.ofNat (48 + rr)] := ⟨_, rfl⟩
        rw [← hX] at hsl
        have hXs : X.size ≤ 1 := by rw [hX, size_txt]; simp
        have HXs := Lib.hid (show X.size = 1 by rw [hX, size_txt]; rfl)
        have HN := Lib.hid (show X ++ ⟨#[]⟩ = txt (UInt8.ofNat (48 + rr) :: []) ∧ DigJ nn (UInt8.ofNat (48 + rr) :: []) q from ⟨by rw [HJ.out.1, hX, txt_append]; rfl, by rw [hq, hr]; exact HJ.out.2.step HNN.out.2 (.inr rfl)⟩)
        have HSZ1 := Lib.hid (show ¬ (X ++ ⟨#[]⟩).size = 0 by rw [HN.out.1, size_txt]; simp)
        have HML := Lib.hid (show 2 * q + 0 < 2 * K + (if (⟨#[]⟩ : ByteArray).size = 0 then 1 else 0) by have := HKQ.out;  rw [if_pos (show (⟨#[]⟩ : ByteArray).size = 0 from rfl)]; omega)
        have hq1 := HQ.out.1
        have hq2 := HQ.out.2
        have hq3 := HQ2.out.1
        have hq4 := HQ2.out.2
        have hr2 := HR1.out
        clear hk hq hr hr1 hX
        go_wp2_with fail
        exact ⟨⟨_, q, _, rfl, rfl, HN, trivial⟩, by simp only [intOf, Int.toNat_natCast, if_neg HSZ1.out]; exact HML.out⟩

      | cons x D =>
        have gS0 : S ≠ ⟨#[]⟩ := by
          intro h
          have := congrArg ByteArray.size (HJ.out.1.symm.trans h)
          rw [size_txt] at this
          have h2 : (x :: D).length = 0 := this
          simp at h2
        have gS1 : S.toList.isEmpty = false := by
          rw [ByteArray.toList_eq, HJ.out.1]
          simp [txt]
        have HN1 := Lib.hid (fun (W : World) => number_is (a ++ S ++ b) (num_sizes HSA.out HSB.out hSS).1 (a.size : Int) (by omega) (by have := HSA.out; omega) W)
        have hnum := num_here (a := a) (b := b) HNB.out HJ.out.1 HJ.out.2 HK0.out
        rw [hnum] at HN1
        clear hnum
        unfold NumV at HN1
        simp only [] at HN1
        rw [HNN.out.1] at HN1
        have hl2 := (num_sizes (b := b) HSA.out HSB.out hSS).2
        have hra := HSA.out
        have hrb := HSB.out
        have HBB := Lib.hid (Below.refl wr.heap.size wr)
        clear hk HJ
        go_wp2_with fail
        go_at_call 13
        refine (HN1.out _).mono ?_
        rintro e wa ⟨rfl, rfl⟩
        have hl3 := HL10.out.2
        clear hl2 gS0 gS1
        go_wp2_with fail
        go_at_call 13
        refine (HN2.out _).mono ?_
        rintro e wb ⟨rfl, rfl⟩
        go_wp2_with fail
        go_at_call 10
        refine (HAL.out _).mono ?_
        rintro e wc ⟨rfl, hb⟩
        have HB := Lib.hid hb
        clear hb
        go_wp2_with fail
        go_ret
        exact ⟨by simp, HB.out⟩
  case pos =>
  have g0 : decide ((b.size : Int) > 0) = true := decide_eq_true (by omega)
  have g0i : (0 : Int) < (b.size : Int) := by omega
  have g0n := hb0
  obtain ⟨c, hc⟩ : ∃ c, b.data.toList[0]? = some c := ⟨_, List.getElem?_eq_getElem (by rw [← size_of (s := b) rfl]; exact hb0)⟩
  have hat := at_of rfl hc
  by_cases h48 : 48 ≤ c.toNat
  case neg =>
    have HNB := Lib.hid (show ∀ c', b.data.toList[0]? = some c' → isDg c' = false from fun c' hc' => by
      rw [hc] at hc'; injection hc' with hc'; rw [← hc']; unfold isDg; rw [decide_eq_false h48, Bool.false_and])
    have GX := Lib.hid True.intro
    have HAT0 := Lib.hid True.intro
    have g48 : decide ((c.toNat : Int) ≥ 48) = false := decide_eq_false (by omega)
    have g48m : decide (48 ≤ c.toNat) = false := decide_eq_false h48
    have g48n : (c.toNat : Int) < 48 := by omega
    clear hc h48
    clear hb0 HAT0
    go_enter Try.func8, Try.ntmps8
    go_upto_region 3 with fail
    clear gn1 gn1i gn2 gn2i ga gan gai gb gbn gbi GX
    go_wp2_with fail
    go_loopw [7, 8] (fun sv kv wz => ∃ (D : List UInt8) (K : Nat) (S : ByteArray), kv = .int .i64 (K : Int) ∧ sv = .string S ∧ Hid (S = txt D ∧ DigJ nn D K) ∧ wz = w) (fun sv kv _ => 2 * (intOf kv).toNat + (match sv with | .string S => if S.size = 0 then 1 else 0 | _ => 0))
    case atStart => exact ⟨[], nn, _, by rw [HNN.out.1], rfl, Lib.hid ⟨rfl, DigJ.start nn⟩, rfl⟩
    case round =>
      obtain ⟨D, K, S, rfl, rfl, HJ, rfl⟩ := hrel
      have hSS : S.size ≤ 9 := by rw [HJ.out.1, size_txt]; exact HJ.out.2.len
      by_cases hk : 0 < K
      · have gk : decide ((K : Int) > 0) = true := decide_eq_true (by omega)
        have gki : (0 : Int) < (K : Int) := by omega
        obtain ⟨q, hq⟩ : ∃ q, q = K / 10 := ⟨_, rfl⟩
        obtain ⟨rr, hr⟩ : ∃ rr, rr = K % 10 := ⟨_, rfl⟩
        obtain ⟨r1, hr1⟩ : ∃ r1, r1 = rr + 1 := ⟨_, rfl⟩
        have HRR := Lib.hid (show rr < 10 by omega)
        have hqI : (K : Int).tdiv 10 = (q : Int) := by rw [hq]; rfl
        have hrI : (K : Int).tmod 10 = (rr : Int) := by rw [hr]; rfl
        have HKN := Lib.hid (HJ.out.2.kle)
        have HKQ := Lib.hid (show q ≤ K ∧ (0 < K → q < K) by rw [hq]; omega)
        have HQ : Hid (IntKind.i64.wrap (q : Int) = (q : Int) ∧ IntKind.i64.wrap (rr : Int) = (rr : Int)) := Lib.hid ⟨IntWalk.i64_in _ (by have := HKN.out; have := HNN.out.2; omega), IntWalk.i64_in _ (by have := HRR.out; omega)⟩
        have HQ2 : Hid (wrap64 (q : Int) = (q : Int) ∧ wrap64 (rr : Int) = (rr : Int)) := Lib.hid ⟨IntWalk.wrap64_in _ (by have := HKN.out; have := HNN.out.2; omega), IntWalk.wrap64_in _ (by have := HRR.out; omega)⟩
        have HR1 := Lib.hid (show IntKind.i64.wrap ((rr : Int) + 1) = (r1 : Int) by rw [IntWalk.i64_in ((rr : Int) + 1) (by have := HRR.out; omega)]; omega)
        have hsl := fun W => one_slice (t := ⟨#[48, 49, 50, 51, 52, 53, 54, 55, 56, 57]⟩) (fig_at HRR.out) hr1 W
        obtain ⟨X, hX⟩ : ∃ X, X = txt [UInt8.ofNat (48 + rr)] := ⟨_, rfl⟩
        rw [← hX] at hsl
        have hXs : X.size ≤ 1 := by rw [hX, size_txt]; simp
        have HXs := Lib.hid (show X.size = 1 by rw [hX, size_txt]; rfl)
        have HN := Lib.hid (show X ++ S = txt (UInt8.ofNat (48 + rr) :: D) ∧ DigJ nn (UInt8.ofNat (48 + rr) :: D) q from ⟨by rw [HJ.out.1, hX, txt_append]; rfl, by rw [hq, hr]; exact HJ.out.2.step HNN.out.2 (.inl hk)⟩)
        have HSZ1 := Lib.hid (show ¬ (X ++ S).size = 0 by rw [HN.out.1, size_txt]; simp)
        have HML := Lib.hid (show 2 * q + 0 < 2 * K + (if (S : ByteArray).size = 0 then 1 else 0) by have := HKQ.out;  omega)
        have hq1 := HQ.out.1
        have hq2 := HQ.out.2
        have hq3 := HQ2.out.1
        have hq4 := HQ2.out.2
        have hr2 := HR1.out
        clear hk hq hr hr1 hX
        go_wp2_with fail
        exact ⟨⟨_, q, _, rfl, rfl, HN, trivial⟩, by simp only [intOf, Int.toNat_natCast, if_neg HSZ1.out]; exact HML.out⟩

      have gk : decide ((K : Int) > 0) = false := decide_eq_false (by omega)
      have gkn : decide (0 < K) = false := decide_eq_false (by omega)
      have gki : (K : Int) ≤ 0 := by omega
      have HK0 := Lib.hid (show K = 0 by omega)
      cases D with
      | nil =>
        have hS0 : S = ⟨#[]⟩ := HJ.out.1
        subst hS0
        obtain ⟨q, hq⟩ : ∃ q, q = K / 10 := ⟨_, rfl⟩
        obtain ⟨rr, hr⟩ : ∃ rr, rr = K % 10 := ⟨_, rfl⟩
        obtain ⟨r1, hr1⟩ : ∃ r1, r1 = rr + 1 := ⟨_, rfl⟩
        have HRR := Lib.hid (show rr < 10 by omega)
        have hqI : (K : Int).tdiv 10 = (q : Int) := by rw [hq]; rfl
        have hrI : (K : Int).tmod 10 = (rr : Int) := by rw [hr]; rfl
        have HKN := Lib.hid (HJ.out.2.kle)
        have HKQ := Lib.hid (show q ≤ K ∧ (0 < K → q < K) by rw [hq]; omega)
        have HQ : Hid (IntKind.i64.wrap (q : Int) = (q : Int) ∧ IntKind.i64.wrap (rr : Int) = (rr : Int)) := Lib.hid ⟨IntWalk.i64_in _ (by have := HKN.out; have := HNN.out.2; omega), IntWalk.i64_in _ (by have := HRR.out; omega)⟩
        have HQ2 : Hid (wrap64 (q : Int) = (q : Int) ∧ wrap64 (rr : Int) = (rr : Int)) := Lib.hid ⟨IntWalk.wrap64_in _ (by have := HKN.out; have := HNN.out.2; omega), IntWalk.wrap64_in _ (by have := HRR.out; omega)⟩
        have HR1 := Lib.hid (show IntKind.i64.wrap ((rr : Int) + 1) = (r1 : Int) by rw [IntWalk.i64_in ((rr : Int) + 1) (by have := HRR.out; omega)]; omega)
        have hsl := fun W => one_slice (t := ⟨#[48, 49, 50, 51, 52, 53, 54, 55, 56, 57]⟩) (fig_at HRR.out) hr1 W
        obtain ⟨X, hX⟩ : ∃ X, X = txt [UInt8.ofNat (48 + rr)] := ⟨_, rfl⟩
        rw [← hX] at hsl
        have hXs : X.size ≤ 1 := by rw [hX, size_txt]; simp
        have HXs := Lib.hid (show X.size = 1 by rw [hX, size_txt]; rfl)
        have HN := Lib.hid (show X ++ ⟨#[]⟩ = txt (UInt8.ofNat (48 + rr) :: []) ∧ DigJ nn (UInt8.ofNat (48 + rr) :: []) q from ⟨by rw [HJ.out.1, hX, txt_append]; rfl, by rw [hq, hr]; exact HJ.out.2.step HNN.out.2 (.inr rfl)⟩)
        have HSZ1 := Lib.hid (show ¬ (X ++ ⟨#[]⟩).size = 0 by rw [HN.out.1, size_txt]; simp)
        have HML := Lib.hid (show 2 * q + 0 < 2 * K + (if (⟨#[]⟩ : ByteArray).size = 0 then 1 else 0) by have := HKQ.out;  rw [if_pos (show (⟨#[]⟩ : ByteArray).size = 0 from rfl)]; omega)
        have hq1 := HQ.out.1
        have hq2 := HQ.out.2
        have hq3 := HQ2.out.1
        have hq4 := HQ2.out.2
        have hr2 := HR1.out
        clear hk hq hr hr1 hX
        go_wp2_with fail
        exact ⟨⟨_, q, _, rfl, rfl, HN, trivial⟩, by simp only [intOf, Int.toNat_natCast, if_neg HSZ1.out]; exact HML.out⟩

      | cons x D =>
        have gS0 : S ≠ ⟨#[]⟩ := by
          intro h
          have := congrArg ByteArray.size (HJ.out.1.symm.trans h)
          rw [size_txt] at this
          have h2 : (x :: D).length = 0 := this
          simp at h2
        have gS1 : S.toList.isEmpty = false := by
          rw [ByteArray.toList_eq, HJ.out.1]
          simp [txt]
        have HN1 := Lib.hid (fun (W : World) => number_is (a ++ S ++ b) (num_sizes HSA.out HSB.out hSS).1 (a.size : Int) (by omega) (by have := HSA.out; omega) W)
        have hnum := num_here (a := a) (b := b) HNB.out HJ.out.1 HJ.out.2 HK0.out
        rw [hnum] at HN1
        clear hnum
        unfold NumV at HN1
        simp only [] at HN1
        rw [HNN.out.1] at HN1
        have hl2 := (num_sizes (b := b) HSA.out HSB.out hSS).2
        have hra := HSA.out
        have hrb := HSB.out
        have HBB := Lib.hid (Below.refl wr.heap.size wr)
        clear hk HJ
        go_wp2_with fail
        go_at_call 13
        refine (HN1.out _).mono ?_
        rintro e wa ⟨rfl, rfl⟩
        have hl3 := HL10.out.2
        clear hl2 gS0 gS1
        go_wp2_with fail
        go_at_call 13
        refine (HN2.out _).mono ?_
        rintro e wb ⟨rfl, rfl⟩
        go_wp2_with fail
        go_at_call 10
        refine (HAL.out _).mono ?_
        rintro e wc ⟨rfl, hb⟩
        have HB := Lib.hid hb
        clear hb
        go_wp2_with fail
        go_ret
        exact ⟨by simp, HB.out⟩
  case pos =>
  have g48 : decide ((c.toNat : Int) ≥ 48) = true := decide_eq_true (by omega)
  have g48n : (48 : Int) ≤ (c.toNat : Int) := by omega
  by_cases h57 : c.toNat ≤ 57
  case pos =>
    have g57 : decide ((c.toNat : Int) ≤ 57) = true := decide_eq_true (by omega)
    have g57n : (c.toNat : Int) ≤ 57 := by omega
    clear hc h48 h57 hb0 HSA HSB
    go_enter Try.func8, Try.ntmps8
    go_wp2_with fail
    go_at_call 10
    refine (HAL.out _).mono ?_
    rintro e w1 ⟨rfl, hb⟩
    have HB := Lib.hid hb
    clear hb
    go_wp2_with fail
    go_ret
    exact ⟨rfl, HB.out⟩
  case neg =>
    have HNB := Lib.hid (show ∀ c', b.data.toList[0]? = some c' → isDg c' = false from fun c' hc' => by
      rw [hc] at hc'; injection hc' with hc'; rw [← hc']; unfold isDg; rw [decide_eq_false h57, Bool.and_false])
    have GX := Lib.hid True.intro
    have HAT0 := Lib.hid True.intro
    have g57 : decide ((c.toNat : Int) ≤ 57) = false := decide_eq_false (by omega)
    have g57m : decide (c.toNat ≤ 57) = false := decide_eq_false h57
    have g57n : (57 : Int) < (c.toNat : Int) := by omega
    clear hc h48 h57
    clear hb0 HAT0
    go_enter Try.func8, Try.ntmps8
    go_upto_region 3 with fail
    clear gn1 gn1i gn2 gn2i ga gan gai gb gbn gbi GX
    go_wp2_with fail
    go_loopw [7, 8] (fun sv kv wz => ∃ (D : List UInt8) (K : Nat) (S : ByteArray), kv = .int .i64 (K : Int) ∧ sv = .string S ∧ Hid (S = txt D ∧ DigJ nn D K) ∧ wz = w) (fun sv kv _ => 2 * (intOf kv).toNat + (match sv with | .string S => if S.size = 0 then 1 else 0 | _ => 0))
    case atStart => exact ⟨[], nn, _, by rw [HNN.out.1], rfl, Lib.hid ⟨rfl, DigJ.start nn⟩, rfl⟩
    case round =>
      obtain ⟨D, K, S, rfl, rfl, HJ, rfl⟩ := hrel
      have hSS : S.size ≤ 9 := by rw [HJ.out.1, size_txt]; exact HJ.out.2.len
      by_cases hk : 0 < K
      · have gk : decide ((K : Int) > 0) = true := decide_eq_true (by omega)
        have gki : (0 : Int) < (K : Int) := by omega
        obtain ⟨q, hq⟩ : ∃ q, q = K / 10 := ⟨_, rfl⟩
        obtain ⟨rr, hr⟩ : ∃ rr, rr = K % 10 := ⟨_, rfl⟩
        obtain ⟨r1, hr1⟩ : ∃ r1, r1 = rr + 1 := ⟨_, rfl⟩
        have HRR := Lib.hid (show rr < 10 by omega)
        have hqI : (K : Int).tdiv 10 = (q : Int) := by rw [hq]; rfl
        have hrI : (K : Int).tmod 10 = (rr : Int) := by rw [hr]; rfl
        have HKN := Lib.hid (HJ.out.2.kle)
        have HKQ := Lib.hid (show q ≤ K ∧ (0 < K → q < K) by rw [hq]; omega)
        have HQ : Hid (IntKind.i64.wrap (q : Int) = (q : Int) ∧ IntKind.i64.wrap (rr : Int) = (rr : Int)) := Lib.hid ⟨IntWalk.i64_in _ (by have := HKN.out; have := HNN.out.2; omega), IntWalk.i64_in _ (by have := HRR.out; omega)⟩
        have HQ2 : Hid (wrap64 (q : Int) = (q : Int) ∧ wrap64 (rr : Int) = (rr : Int)) := Lib.hid ⟨IntWalk.wrap64_in _ (by have := HKN.out; have := HNN.out.2; omega), IntWalk.wrap64_in _ (by have := HRR.out; omega)⟩
        have HR1 := Lib.hid (show IntKind.i64.wrap ((rr : Int) + 1) = (r1 : Int) by rw [IntWalk.i64_in ((rr : Int) + 1) (by have := HRR.out; omega)]; omega)
        have hsl := fun W => one_slice (t := ⟨#[48, 49, 50, 51, 52, 53, 54, 55, 56, 57]⟩) (fig_at HRR.out) hr1 W
        obtain ⟨X, hX⟩ : ∃ X, X = txt [UInt8.ofNat (48 + rr)] := ⟨_, rfl⟩
        rw [← hX] at hsl
        have hXs : X.size ≤ 1 := by rw [hX, size_txt]; simp
        have HXs := Lib.hid (show X.size = 1 by rw [hX, size_txt]; rfl)
        have HN := Lib.hid (show X ++ S = txt (UInt8.ofNat (48 + rr) :: D) ∧ DigJ nn (UInt8.ofNat (48 + rr) :: D) q from ⟨by rw [HJ.out.1, hX, txt_append]; rfl, by rw [hq, hr]; exact HJ.out.2.step HNN.out.2 (.inl hk)⟩)
        have HSZ1 := Lib.hid (show ¬ (X ++ S).size = 0 by rw [HN.out.1, size_txt]; simp)
        have HML := Lib.hid (show 2 * q + 0 < 2 * K + (if (S : ByteArray).size = 0 then 1 else 0) by have := HKQ.out;  omega)
        have hq1 := HQ.out.1
        have hq2 := HQ.out.2
        have hq3 := HQ2.out.1
        have hq4 := HQ2.out.2
        have hr2 := HR1.out
        clear hk hq hr hr1 hX
        go_wp2_with fail
        exact ⟨⟨_, q, _, rfl, rfl, HN, trivial⟩, by simp only [intOf, Int.toNat_natCast, if_neg HSZ1.out]; exact HML.out⟩

      have gk : decide ((K : Int) > 0) = false := decide_eq_false (by omega)
      have gkn : decide (0 < K) = false := decide_eq_false (by omega)
      have gki : (K : Int) ≤ 0 := by omega
      have HK0 := Lib.hid (show K = 0 by omega)
      cases D with
      | nil =>
        have hS0 : S = ⟨#[]⟩ := HJ.out.1
        subst hS0
        obtain ⟨q, hq⟩ : ∃ q, q = K / 10 := ⟨_, rfl⟩
        obtain ⟨rr, hr⟩ : ∃ rr, rr = K % 10 := ⟨_, rfl⟩
        obtain ⟨r1, hr1⟩ : ∃ r1, r1 = rr + 1 := ⟨_, rfl⟩
        have HRR := Lib.hid (show rr < 10 by omega)
        have hqI : (K : Int).tdiv 10 = (q : Int) := by rw [hq]; rfl
        have hrI : (K : Int).tmod 10 = (rr : Int) := by rw [hr]; rfl
        have HKN := Lib.hid (HJ.out.2.kle)
        have HKQ := Lib.hid (show q ≤ K ∧ (0 < K → q < K) by rw [hq]; omega)
        have HQ : Hid (IntKind.i64.wrap (q : Int) = (q : Int) ∧ IntKind.i64.wrap (rr : Int) = (rr : Int)) := Lib.hid ⟨IntWalk.i64_in _ (by have := HKN.out; have := HNN.out.2; omega), IntWalk.i64_in _ (by have := HRR.out; omega)⟩
        have HQ2 : Hid (wrap64 (q : Int) = (q : Int) ∧ wrap64 (rr : Int) = (rr : Int)) := Lib.hid ⟨IntWalk.wrap64_in _ (by have := HKN.out; have := HNN.out.2; omega), IntWalk.wrap64_in _ (by have := HRR.out; omega)⟩
        have HR1 := Lib.hid (show IntKind.i64.wrap ((rr : Int) + 1) = (r1 : Int) by rw [IntWalk.i64_in ((rr : Int) + 1) (by have := HRR.out; omega)]; omega)
        have hsl := fun W => one_slice (t := ⟨#[48, 49, 50, 51, 52, 53, 54, 55, 56, 57]⟩) (fig_at HRR.out) hr1 W
        obtain ⟨X, hX⟩ : ∃ X, X = txt [UInt8.ofNat (48 + rr)] := ⟨_, rfl⟩
        rw [← hX] at hsl
        have hXs : X.size ≤ 1 := by rw [hX, size_txt]; simp
        have HXs := Lib.hid (show X.size = 1 by rw [hX, size_txt]; rfl)
        have HN := Lib.hid (show X ++ ⟨#[]⟩ = txt (UInt8.ofNat (48 + rr) :: []) ∧ DigJ nn (UInt8.ofNat (48 + rr) :: []) q from ⟨by rw [HJ.out.1, hX, txt_append]; rfl, by rw [hq, hr]; exact HJ.out.2.step HNN.out.2 (.inr rfl)⟩)
        have HSZ1 := Lib.hid (show ¬ (X ++ ⟨#[]⟩).size = 0 by rw [HN.out.1, size_txt]; simp)
        have HML := Lib.hid (show 2 * q + 0 < 2 * K + (if (⟨#[]⟩ : ByteArray).size = 0 then 1 else 0) by have := HKQ.out;  rw [if_pos (show (⟨#[]⟩ : ByteArray).size = 0 from rfl)]; omega)
        have hq1 := HQ.out.1
        have hq2 := HQ.out.2
        have hq3 := HQ2.out.1
        have hq4 := HQ2.out.2
        have hr2 := HR1.out
        clear hk hq hr hr1 hX
        go_wp2_with fail
        exact ⟨⟨_, q, _, rfl, rfl, HN, trivial⟩, by simp only [intOf, Int.toNat_natCast, if_neg HSZ1.out]; exact HML.out⟩

      | cons x D =>
        have gS0 : S ≠ ⟨#[]⟩ := by
          intro h
          have := congrArg ByteArray.size (HJ.out.1.symm.trans h)
          rw [size_txt] at this
          have h2 : (x :: D).length = 0 := this
          simp at h2
        have gS1 : S.toList.isEmpty = false := by
          rw [ByteArray.toList_eq, HJ.out.1]
          simp [txt]
        have HN1 := Lib.hid (fun (W : World) => number_is (a ++ S ++ b) (num_sizes HSA.out HSB.out hSS).1 (a.size : Int) (by omega) (by have := HSA.out; omega) W)
        have hnum := num_here (a := a) (b := b) HNB.out HJ.out.1 HJ.out.2 HK0.out
        rw [hnum] at HN1
        clear hnum
        unfold NumV at HN1
        simp only [] at HN1
        rw [HNN.out.1] at HN1
        have hl2 := (num_sizes (b := b) HSA.out HSB.out hSS).2
        have hra := HSA.out
        have hrb := HSB.out
        have HBB := Lib.hid (Below.refl wr.heap.size wr)
        clear hk HJ
        go_wp2_with fail
        go_at_call 13
        refine (HN1.out _).mono ?_
        rintro e wa ⟨rfl, rfl⟩
        have hl3 := HL10.out.2
        clear hl2 gS0 gS1
        go_wp2_with fail
        go_at_call 13
        refine (HN2.out _).mono ?_
        rintro e wb ⟨rfl, rfl⟩
        go_wp2_with fail
        go_at_call 10
        refine (HAL.out _).mono ?_
        rintro e wc ⟨rfl, hb⟩
        have HB := Lib.hid hb
        clear hb
        go_wp2_with fail
        go_ret
        exact ⟨by simp, HB.out⟩
end Go.Proofs.Ytkgpicalbpimdaa
