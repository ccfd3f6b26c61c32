/-
  How many bits of a word of 64 are 1, by masks and sums: math/bits.OnesCount64. No condition but that the word is one of 64 bits.
-/
import Derived.Test.YtbehbbmhkkidfaaCset
namespace Go.Proofs.Ytbehbbmhkkidfaa

theorem land16 (a b r s : Nat) (hr : r < 16) (hs : s < 16) : (16 * a + r) &&& (16 * b + s) = 16 * (a &&& b) + (r &&& s) := by
  have h4 : ∀ x y, y < 16 → 16 * x + y = 2 ^ 4 * x + y := fun x y _ => by rfl
  have hrs : r &&& s < 16 := Nat.and_lt_two_pow (n := 4) _ hs
  apply Nat.eq_of_testBit_eq
  intro i
  rw [Nat.testBit_and, h4 a r hr, h4 b s hs, h4 (a &&& b) (r &&& s) hrs, Nat.testBit_two_pow_mul_add _ hr, Nat.testBit_two_pow_mul_add _ hs, Nat.testBit_two_pow_mul_add _ hrs]
  split
  · rw [Nat.testBit_and]
  · rw [Nat.testBit_and]
theorem land256 (a b r s : Nat) (hr : r < 256) (hs : s < 256) : (256 * a + r) &&& (256 * b + s) = 256 * (a &&& b) + (r &&& s) := by
  have h4 : ∀ x y, y < 256 → 256 * x + y = 2 ^ 8 * x + y := fun x y _ => by rfl
  have hrs : r &&& s < 256 := Nat.and_lt_two_pow (n := 8) _ hs
  apply Nat.eq_of_testBit_eq
  intro i
  rw [Nat.testBit_and, h4 a r hr, h4 b s hs, h4 (a &&& b) (r &&& s) hrs, Nat.testBit_two_pow_mul_add _ hr, Nat.testBit_two_pow_mul_add _ hs, Nat.testBit_two_pow_mul_add _ hrs]
  split
  · rw [Nat.testBit_and]
  · rw [Nat.testBit_and]

/-- Digit by digit. -/
def mapd (f : Nat → Nat) : Nat → Nat → Nat
  | 0, _ => 0
  | n + 1, x => f (x % 16) + 16 * mapd f n (x / 16)
def rep (c : Nat) : Nat → Nat
  | 0 => 0
  | n + 1 => c + 16 * rep c n
theorem mapd_le {f : Nat → Nat} {c : Nat} (h : ∀ r, r < 16 → f r ≤ c) : ∀ n x, mapd f n x ≤ rep c n
  | 0, _ => Nat.le_refl _
  | n + 1, x => by
    have := mapd_le h n (x / 16)
    have := h (x % 16) (Nat.mod_lt _ (by decide))
    unfold mapd rep
    omega
def e1 (r : Nat) : Nat := (r / 2 &&& 5) + (r &&& 5)
def e2 (r : Nat) : Nat := (r / 4 &&& 3) + (r &&& 3)
theorem e1_lt : ∀ r, r < 16 → e1 r ≤ 10 := by decide
theorem e2_e1 : ∀ r, r < 16 → e2 (e1 r) = p4 r := by decide
theorem p4_le : ∀ r, r < 16 → p4 r ≤ 4 := by decide
theorem low5 : ∀ b, b < 2 → ∀ r, r < 16 → (8 * b + r / 2) &&& 5 = r / 2 &&& 5 := by decide
theorem low3 : ∀ b, b < 4 → ∀ r, r < 16 → (4 * b + r / 4) &&& 3 = r / 4 &&& 3 := by decide

theorem swar1 : ∀ n x, x < 16 ^ n → (x / 2 &&& rep 5 n) + (x &&& rep 5 n) = mapd e1 n x
  | 0, x, h => by
    have : x = 0 := by simpa using h
    subst this
    rfl
  | n + 1, x, h => by
    have ih := swar1 n (x / 16) (by rw [Nat.pow_succ] at h; omega)
    have hr : x % 16 < 16 := Nat.mod_lt _ (by decide)
    have ex : x = 16 * (x / 16) + x % 16 := by omega
    have eh : x / 2 = 16 * (x / 16 / 2) + (8 * (x / 16 % 2) + x % 16 / 2) := by omega
    have a1 : x / 2 &&& rep 5 (n + 1) = 16 * (x / 16 / 2 &&& rep 5 n) + (x % 16 / 2 &&& 5) := by
      rw [eh, rep, Nat.add_comm 5, land16 _ _ _ _ (by omega) (by decide), low5 _ (Nat.mod_lt _ (by decide)) _ hr]
    have a2 : x &&& rep 5 (n + 1) = 16 * (x / 16 &&& rep 5 n) + (x % 16 &&& 5) := by
      conv => lhs; rw [ex]
      rw [rep, Nat.add_comm 5, land16 _ _ _ _ hr (by decide)]
    rw [a1, a2, mapd, ← ih, e1]
    omega
theorem swar2 : ∀ n x, x < 16 ^ n → (x / 4 &&& rep 3 n) + (x &&& rep 3 n) = mapd e2 n x
  | 0, x, h => by
    have : x = 0 := by simpa using h
    subst this
    rfl
  | n + 1, x, h => by
    have ih := swar2 n (x / 16) (by rw [Nat.pow_succ] at h; omega)
    have hr : x % 16 < 16 := Nat.mod_lt _ (by decide)
    have ex : x = 16 * (x / 16) + x % 16 := by omega
    have eh : x / 4 = 16 * (x / 16 / 4) + (4 * (x / 16 % 4) + x % 16 / 4) := by omega
    have a1 : x / 4 &&& rep 3 (n + 1) = 16 * (x / 16 / 4 &&& rep 3 n) + (x % 16 / 4 &&& 3) := by
      rw [eh, rep, Nat.add_comm 3, land16 _ _ _ _ (by omega) (by decide), low3 _ (Nat.mod_lt _ (by decide)) _ hr]
    have a2 : x &&& rep 3 (n + 1) = 16 * (x / 16 &&& rep 3 n) + (x % 16 &&& 3) := by
      conv => lhs; rw [ex]
      rw [rep, Nat.add_comm 3, land16 _ _ _ _ hr (by decide)]
    rw [a1, a2, mapd, ← ih, e2]
    omega
theorem mapd_mapd {f g : Nat → Nat} (hf : ∀ r, r < 16 → f r < 16) : ∀ n x, mapd g n (mapd f n x) = mapd (fun r => g (f r)) n x
  | 0, _ => rfl
  | n + 1, x => by
    have h := hf (x % 16) (Nat.mod_lt _ (by decide))
    have e1 : (f (x % 16) + 16 * mapd f n (x / 16)) % 16 = f (x % 16) := by omega
    have e2 : (f (x % 16) + 16 * mapd f n (x / 16)) / 16 = mapd f n (x / 16) := by omega
    rw [mapd, mapd, e1, e2, mapd_mapd hf n, mapd]
theorem mapd_congr {f g : Nat → Nat} (h : ∀ r, r < 16 → f r = g r) : ∀ n x, mapd f n x = mapd g n x
  | 0, _ => rfl
  | n + 1, x => by rw [mapd, mapd, mapd_congr h n, h _ (Nat.mod_lt _ (by decide))]

/-- Bytes, as sums of two digits. -/
def mapb (f : Nat → Nat) : Nat → Nat → Nat
  | 0, _ => 0
  | n + 1, x => f (x % 16) + f (x / 16 % 16) + 256 * mapb f n (x / 256)
def rep256 (c : Nat) : Nat → Nat
  | 0 => 0
  | n + 1 => c + 256 * rep256 c n
theorem land15 (z : Nat) : z &&& 15 = z % 16 := Nat.and_two_pow_sub_one_eq_mod z 4
theorem swar3 {f : Nat → Nat} (hf : ∀ r, r < 16 → f r ≤ 4) : ∀ n x, x < 256 ^ n → (mapd f (2 * n) x / 16 + mapd f (2 * n) x) &&& rep256 15 n = mapb f n x
  | 0, _, _ => by simp [mapd, mapb]
  | n + 1, x, h => by
    have ih := swar3 hf n (x / 256) (by rw [Nat.pow_succ] at h; omega)
    have h0 := hf (x % 16) (Nat.mod_lt _ (by decide))
    have h1 := hf (x / 16 % 16) (Nat.mod_lt _ (by decide))
    have em : mapd f (2 * (n + 1)) x = f (x % 16) + 16 * (f (x / 16 % 16) + 16 * mapd f (2 * n) (x / 256)) := by
      rw [show 2 * (n + 1) = 2 * n + 1 + 1 by omega, mapd, mapd, Nat.div_div_eq_div_mul]
    have hy : mapd f (2 * n) (x / 256) % 16 ≤ 4 := by
      cases n with
      | zero => simp [mapd]
      | succ m =>
        rw [show 2 * (m + 1) = 2 * m + 1 + 1 by omega, mapd]
        have := hf (x / 256 % 16) (Nat.mod_lt _ (by decide))
        omega
    have es : mapd f (2 * (n + 1)) x / 16 + mapd f (2 * (n + 1)) x = 256 * (mapd f (2 * n) (x / 256) / 16 + mapd f (2 * n) (x / 256)) + (16 * (f (x / 16 % 16) + mapd f (2 * n) (x / 256) % 16) + (f (x % 16) + f (x / 16 % 16))) := by
      rw [em]
      generalize mapd f (2 * n) (x / 256) = y at hy ⊢
      generalize f (x % 16) = a at h0 ⊢
      generalize f (x / 16 % 16) = b at h1 ⊢
      omega
    rw [es, rep256, Nat.add_comm 15, land256 _ _ _ _ (by omega) (by decide), ih, land15, mapb]
    omega
theorem mapb_popd : ∀ n x, ∃ l : List Nat, l.length = n ∧ (∀ b ∈ l, b ≤ 8) ∧ mapb p4 n x = l.foldr (fun b y => b + 256 * y) 0 ∧ popd (2 * n) x = l.sum
  | 0, _ => ⟨[], rfl, by simp, rfl, rfl⟩
  | n + 1, x => by
    obtain ⟨l, hl, h8, hm, hp⟩ := mapb_popd n (x / 256)
    have h0 := p4_le (x % 16) (Nat.mod_lt _ (by decide))
    have h1 := p4_le (x / 16 % 16) (Nat.mod_lt _ (by decide))
    refine ⟨(p4 (x % 16) + p4 (x / 16 % 16)) :: l, by simp [hl], ?_, by rw [mapb, hm, List.foldr_cons], ?_⟩
    · intro b hb
      rcases List.mem_cons.1 hb with rfl | hb
      · omega
      · exact h8 b hb
    · rw [show 2 * (n + 1) = 2 * n + 1 + 1 by omega, popd, popd, Nat.div_div_eq_div_mul, hp, List.sum_cons, Nat.add_assoc]
theorem dv1 {a b c : Nat} (h : c = a + 256 * b) (ha : a < 256) : c / 256 = b := by omega
theorem dv2 {a b c d e : Nat} (h : c = a + 256 * b) (h' : b = d + 256 * e) (ha : a < 256) (hd : d < 256) : c / 65536 = e := by omega
theorem ad1 {a b c a' b' c' : Nat} (h : c = a + 256 * b) (h' : c' = a' + 256 * b') : c + c' = (a + a') + 256 * (b + b') := by omega
theorem dv4 {a0 a1 a2 a3 c c1 c2 c3 c4 : Nat} (h : c = a0 + 256 * c1) (h1 : c1 = a1 + 256 * c2) (h2 : c2 = a2 + 256 * c3) (h3 : c3 = a3 + 256 * c4) (b0 : a0 < 256) (b1 : a1 < 256) (b2 : a2 < 256) (b3 : a3 < 256) : c / 4294967296 = c4 := by
  have h5 := dv2 h h1 b0 b1
  have h6 := dv2 h2 h3 b2 b3
  rw [show 4294967296 = 65536 * 65536 by decide, ← Nat.div_div_eq_div_mul, h5, h6]
theorem md1 {a b c : Nat} (h : c = a + 256 * b) (ha : a < 128) : c % 128 = a := by omega
theorem up1 {a b c B : Nat} (h : c = a + 256 * b) (ha : a ≤ 8) (hb : b ≤ B) : c ≤ 8 + 256 * B := by omega
theorem lt8 {a b c d e f g h : Nat} (h0 : a ≤ 8) (h1 : b ≤ 8) (h2 : c ≤ 8) (h3 : d ≤ 8) (h4 : e ≤ 8) (h5 : f ≤ 8) (h6 : g ≤ 8) (h7 : h ≤ 8) : a + b + (c + d) + (e + f + (g + h)) < 128 := by omega
theorem as8 (a b c d e f g h : Nat) : a + b + (c + d) + (e + f + (g + h)) = a + b + c + d + e + f + g + h := by omega
theorem sum8 (b0 b1 b2 b3 b4 b5 b6 b7 Y : Nat) (h0 : b0 ≤ 8) (h1 : b1 ≤ 8) (h2 : b2 ≤ 8) (h3 : b3 ≤ 8) (h4 : b4 ≤ 8) (h5 : b5 ≤ 8) (h6 : b6 ≤ 8) (h7 : b7 ≤ 8)
    (hY : Y = b0 + 256 * (b1 + 256 * (b2 + 256 * (b3 + 256 * (b4 + 256 * (b5 + 256 * (b6 + 256 * (b7 + 256 * 0)))))))) :
    ∃ s4 s5 s6, s4 = Y + Y / 256 ∧ s5 = s4 + s4 / 65536 ∧ s6 = s5 + s5 / 4294967296 ∧ s6 % 128 = b0 + b1 + b2 + b3 + b4 + b5 + b6 + b7 ∧ s4 < 18446744073709551616 ∧ s5 < 18446744073709551616 ∧ s6 < 9223372036854775808 := by
  obtain ⟨Y7, e7⟩ : ∃ Y7, Y7 = b7 + 256 * 0 := ⟨_, rfl⟩
  rw [← e7] at hY
  obtain ⟨Y6, e6⟩ : ∃ y, y = b6 + 256 * Y7 := ⟨_, rfl⟩
  rw [← e6] at hY
  obtain ⟨Y5, e5⟩ : ∃ y, y = b5 + 256 * Y6 := ⟨_, rfl⟩
  rw [← e5] at hY
  obtain ⟨Y4, e4⟩ : ∃ y, y = b4 + 256 * Y5 := ⟨_, rfl⟩
  rw [← e4] at hY
  obtain ⟨Y3, e3⟩ : ∃ y, y = b3 + 256 * Y4 := ⟨_, rfl⟩
  rw [← e3] at hY
  obtain ⟨Y2, e2⟩ : ∃ y, y = b2 + 256 * Y3 := ⟨_, rfl⟩
  rw [← e2] at hY
  obtain ⟨Y1, e1⟩ : ∃ y, y = b1 + 256 * Y2 := ⟨_, rfl⟩
  rw [← e1] at hY
  have f8 : (0 : Nat) = 0 + 256 * 0 := rfl
  have z7 := ad1 e7 f8
  have z6 := ad1 e6 e7
  have z5 := ad1 e5 e6
  have z4 := ad1 e4 e5
  have z3 := ad1 e3 e4
  have z2 := ad1 e2 e3
  have z1 := ad1 e1 e2
  have z0 := ad1 hY e1
  have w6 := ad1 z6 f8
  have w5 := ad1 z5 z7
  have w4 := ad1 z4 z6
  have w3 := ad1 z3 z5
  have w2 := ad1 z2 z4
  have w1 := ad1 z1 z3
  have w0 := ad1 z0 z2
  have t0 := ad1 w0 w4
  have q0 : Y / 256 = Y1 := dv1 hY (Nat.lt_of_le_of_lt h0 (by decide))
  have q1 : (Y + Y1) / 65536 = Y2 + Y3 := dv2 z0 z1 (Nat.lt_of_le_of_lt (Nat.add_le_add h0 h1) (by decide)) (Nat.lt_of_le_of_lt (Nat.add_le_add h1 h2) (by decide))
  have b4x : ∀ {a b c d : Nat}, a ≤ 8 → b ≤ 8 → c ≤ 8 → d ≤ 8 → a + b + (c + d) < 128 := fun {a b c d} ha hb hc hd => by omega
  have b4y : ∀ {a b c d : Nat}, a ≤ 8 → b ≤ 8 → c ≤ 8 → d ≤ 8 → a + b + (c + d) < 256 := fun {a b c d} ha hb hc hd => by omega
  have q2 : (Y + Y1 + (Y2 + Y3)) / 4294967296 = Y4 + Y5 + (Y6 + Y7) := dv4 w0 w1 w2 w3 (b4y h0 h1 h2 h3) (b4y h1 h2 h3 h4) (b4y h2 h3 h4 h5) (b4y h3 h4 h5 h6)
  have q3 := md1 t0 (lt8 h0 h1 h2 h3 h4 h5 h6 h7)
  have u7 : Y7 ≤ 8 := by rw [e7]; exact h7
  have u6 := up1 e6 h6 u7
  have u5 := up1 e5 h5 u6
  have u4 := up1 e4 h4 u5
  have u3 := up1 e3 h3 u4
  have u2 := up1 e2 h2 u3
  have u1 := up1 e1 h1 u2
  have u0 := up1 hY h0 u1
  refine ⟨Y + Y1, Y + Y1 + (Y2 + Y3), Y + Y1 + (Y2 + Y3) + (Y4 + Y5 + (Y6 + Y7)), by rw [q0], by rw [q1], by rw [q2], ?_, ?_, ?_, ?_⟩
  · rw [q3, as8]
  · exact Nat.lt_of_le_of_lt (Nat.add_le_add u0 u1) (by decide)
  · exact Nat.lt_of_le_of_lt (Nat.add_le_add (Nat.add_le_add u0 u1) (Nat.add_le_add u2 u3)) (by decide)
  · exact Nat.lt_of_le_of_lt (Nat.add_le_add (Nat.add_le_add (Nat.add_le_add u0 u1) (Nat.add_le_add u2 u3)) (Nat.add_le_add (Nat.add_le_add u4 u5) (Nat.add_le_add u6 u7))) (by decide)

/-- What each row of the function's text makes of the one before. -/
theorem swar (x : Nat) (hx : x < 18446744073709551616) : ∃ s1 s2 s3 s4 s5 s6 : Nat,
    (x / 2 &&& 6148914691236517205) + (x &&& 6148914691236517205) = s1 ∧ s1 < 18446744073709551616 ∧
    (s1 / 4 &&& 3689348814741910323) + (s1 &&& 3689348814741910323) = s2 ∧ s2 < 18446744073709551616 ∧ s2 / 16 + s2 < 18446744073709551616 ∧
    (s2 / 16 + s2) &&& 1085102592571150095 = s3 ∧ s3 < 18446744073709551616 ∧
    s3 + s3 / 256 = s4 ∧ s4 < 18446744073709551616 ∧ s4 + s4 / 65536 = s5 ∧ s5 < 18446744073709551616 ∧ s5 + s5 / 4294967296 = s6 ∧ s6 < 9223372036854775808 ∧ s6 % 128 = pop x := by
  have r5 : rep 5 16 = 6148914691236517205 := by decide
  have r3 : rep 3 16 = 3689348814741910323 := by decide
  have rf : rep256 15 8 = 1085102592571150095 := by decide
  have r10 : rep 10 16 = 12297829382473034410 := by decide
  have r4 : rep 4 16 = 4919131752989213764 := by decide
  have a1 := swar1 16 x (by simpa using hx)
  rw [r5] at a1
  have l1 := mapd_le e1_lt 16 x
  rw [r10] at l1
  have a2 := swar2 16 (mapd e1 16 x) (by have : (16 : Nat) ^ 16 = 18446744073709551616 := by decide
                                         omega)
  rw [r3, mapd_mapd (fun r hr => Nat.lt_of_le_of_lt (e1_lt r hr) (by decide)), mapd_congr e2_e1] at a2
  have l2 := mapd_le p4_le 16 x
  rw [r4] at l2
  have a3 := swar3 p4_le 8 x (by simpa using hx)
  rw [rf, show 2 * 8 = 16 by decide] at a3
  obtain ⟨l, hl, h8, hm, hp⟩ := mapb_popd 8 x
  match l, hl with
  | [b0, b1, b2, b3, b4, b5, b6, b7], _ =>
    obtain ⟨s4, s5, s6, e4, e5, e6, hs, q4, q5, q6⟩ := sum8 b0 b1 b2 b3 b4 b5 b6 b7 (mapb p4 8 x) (h8 _ (by simp)) (h8 _ (by simp)) (h8 _ (by simp)) (h8 _ (by simp)) (h8 _ (by simp)) (h8 _ (by simp)) (h8 _ (by simp)) (h8 _ (by simp)) hm
    refine ⟨mapd e1 16 x, mapd p4 16 x, mapb p4 8 x, s4, s5, s6, a1, by omega, a2, by omega, by omega, a3, by omega, e4.symm, q4, e5.symm, q5, e6.symm, q6, ?_⟩
    rw [hs]
    unfold pop
    rw [show 16 = 2 * 8 by decide, hp]
    simp only [List.sum_cons, List.sum_nil]
    omega
end Go.Proofs.Ytbehbbmhkkidfaa
