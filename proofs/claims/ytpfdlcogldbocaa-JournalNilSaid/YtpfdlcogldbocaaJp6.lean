/-
  The program's journal's Append. Conditions: its disk and the journal lie in memory, apart.
-/
import Derived.Test.YtpfdlcogldbocaaJp4
import Derived.Test.YtpfdlcogldbocaaJref5
import Derived.BigRegion
namespace Go.Proofs.Ytpfdlcogldbocaa
open Go.RowKit Go.Deep Go.Maps

def JAppAns (Z : Nat → Prop) (pj g p n f k u : Nat) (F : Int → Option (List UInt8)) (cs : List CallM) (m : Nat) (l : List UInt8) (w : World) (e : Ending) (w' : World) : Prop :=
  e = .returned (.int .i64 0) ∧ ∃ Z', Dk w' Z' p n F (cs ++ wto (nextOf (reg (con F cs) f k) l u) f (u / 32) (wrote u (frame l).length)) (m + k) ∧ PJ w' pj g p f k (nextOf (reg (con F cs) f k) l u) (u + (frame l).length) ∧
    (∀ j, Z' j → Z j ∨ w.heap.size ≤ j) ∧ ¬ Z' pj ∧ ¬ Z' g ∧ Turned (fun x => Z x ∨ x = g ∨ x = pj) w w'

set_option maxRecDepth 100000 in
set_option maxHeartbeats 4000000 in
theorem jp_append {w : World} {Z : Nat → Prop} {pj g p n f k m u : Nat} {F : Int → Option (List UInt8)} {cs : List CallM} (hD : Dk w Z p n F cs m) (hJ : PJ w pj g p f k (reg (con F cs) f k) u) (hZ : ¬ Z pj ∧ ¬ Z g) (hm : m + k < 1073741824) (hn : n ≤ 65536) (hfk : f + k ≤ n)
    (A : Option Addr) (l : List UInt8) (cap : Nat) (hA : BytesAt w A l) (hr : RecOk l) (hroom : u + (frame l).length ≤ 32 * k) :
    Calls Try.prog 12 #[.pointer (some ⟨pj, 0, none⟩), .slice A l.length cap] w (JAppAns Z pj g p n f k u F cs m l w) := by
  have HW := Lib.hid (wrap_ok A l cap w hA hr)
  obtain ⟨X, eX⟩ : ∃ X, X = reg (con F cs) f k := ⟨_, rfl⟩
  rw [← eX] at hJ
  have hX := hJ.2.2.1
  have hlf := length_frame l
  have hrl := hr.2
  obtain ⟨L, eL⟩ : ∃ L, L = 32 * k := ⟨_, rfl⟩
  obtain ⟨nl, enl⟩ : ∃ nl, nl = l.length := ⟨_, rfl⟩
  have hkb : k ≤ 65536 := by omega
  have HRO := Lib.hid fun (W : World) (hb : Below w.heap.size w W) => jp_room (hJ.below hb) (by omega) hkb
  have HD := Lib.hid hD
  have HJ := Lib.hid hJ
  have HZ := Lib.hid hZ
  have HM := Lib.hid hm
  have HFK := Lib.hid hfk
  have EX := Lib.hid eX
  have EL := Lib.hid eL
  have HX := Lib.hid hX
  have HROOM := Lib.hid hroom
  have HLF := Lib.hid hlf
  have hub : u ≤ 2097152 := by omega
  have hfl : (frame l).length ≤ 8192 ∧ 0 < (frame l).length := by omega
  have HFL := Lib.hid hfl
  have hLb : L ≤ 2097152 := by omega
  rw [← enl] at HW ⊢
  clear hD hJ hZ hm hfk eX eL hX hroom hlf hrl hA hr enl hfl
  go_enter Try.func12, Try.ntmps12
  go_wp2_with fail
  go_at_call 41
  (with_reducible refine (HW.out).mono ?_)
  rintro e W1 ⟨v, rfl, g1, q, c1, rfl, hq, hown1, hb1⟩
  have hqq : q ≤ 8192 ∧ 0 < q := by rw [hq]; exact HFL.out
  have hfit : ¬ 32 * (k : Int) - (u : Int) < (q : Int) := by have := HROOM.out; omega
  have huq : u + q ≤ L := by have := HROOM.out; have := EL.out; omega
  have HQ := Lib.hid hq
  have HO1 := Lib.hid hown1
  have HB1 := Lib.hid hb1
  have HRO1 := Lib.hid (HRO.out W1 hb1)
  clear hq hown1 hb1
  go_wp2_with fail
  go_at_call 25
  (with_reducible refine (HRO1.out).mono ?_)
  rintro e w' ⟨rfl, N, rfl⟩
  have hbN : Below w.heap.size w (W1.drewN N) := ⟨HB1.out.os, HB1.out.tape, HB1.out.output, HB1.out.size, HB1.out.block⟩
  have hJN := HJ.out.below hbN
  obtain ⟨W2, e2⟩ : ∃ W2, W2 = W1.drewN N := ⟨_, rfl⟩
  rw [← e2] at hbN hJN ⊢
  have c2 := hJN.c2
  rw [← EL.out] at c2
  have c3 := hJN.c3
  have hs : ∀ W, (Instr.sliceAt 39 (.slice (some ⟨g, 0, none⟩) L L) (some (.int .i64 (u : Int))) (some (.int .i64 ((u : Int) + (q : Int)))) none).run Try.prog W = .ok (.slice (some ⟨g, u, none⟩) q (L - u)) W := fun W => by
    have := u8_slice_mid (W := W) (A := some ⟨g, 0, none⟩) (n := L) (cap := L) (k := u) (m := u + q) (by omega) huq (by omega) (by unfold maxLen; omega)
    rw [Option.map_some, Addr.add_mid, Nat.zero_add, Nat.add_sub_cancel_left, Int.natCast_add] at this
    exact this
  have hfb : BytesAt W2.drew (some ⟨g1, 0, none⟩) (frame l) := by
    rw [e2]
    exact fun i b hi => HO1.out.bytes i b hi
  have hcp := run_copy_part (o := u) (dLen := q) (dCap := L - u) (cap := c1) hJN.drew.2.1 hfb HFL.out.2 (by rw [HQ.out]; exact Nat.le_refl _) (by rw [HX.out]; exact HROOM.out)
  rw [← HQ.out] at hcp
  obtain ⟨c', ec'⟩ : ∃ c', c' = L - u := ⟨_, rfl⟩
  simp only [← ec'] at hs hcp
  obtain ⟨W3, e3⟩ : ∃ W3, W3 = W2.drew.setRow g (bytesV (putAt X u (frame l))).toArray := ⟨_, rfl⟩
  rw [← e3] at hcp
  have ht3 : Turned (fun x => x = g) W2 W3 := (turned_drew _ W2).trans (by rw [e3]; exact turned_setRow W2.drew g _) (fun _ _ h => h)
  have hpl : (putAt X u (frame l)).length = 32 * k := by rw [length_putAt (by rw [HX.out]; exact HROOM.out), HX.out]
  have hJ3 : PJ W3 pj g p f k (putAt X u (frame l)) u := ⟨ht3.obj hJN.1 (fun e => HJ.out.2.2.2 e.symm), by rw [e3]; exact heap_putAt hJN.drew.2.1 _, hpl, HJ.out.2.2.2⟩
  have htw3 : Turned (fun x => x = g) w W3 := (Turned.of_below (S := fun x => x = g) hbN).trans ht3 (fun _ _ h => h)
  have d2 := hJ3.c2
  rw [← EL.out] at d2
  have d3 := hJ3.c3
  have q1 : IntKind.i64.wrap ((u : Int) + (q : Int)) = (u : Int) + (q : Int) := IntWalk.i64_in _ (by omega)
  have HJ3 := Lib.hid hJ3
  have HT3 := Lib.hid htw3
  have HPL := Lib.hid hpl
  clear hbN hJN e2 hfb ec' e3 ht3 hpl hJ3 htw3
  go_wp2_with fail
  go_region
  clear hs hcp c2 c3
  obtain ⟨b0, eb0⟩ : ∃ b0, b0 = u / 32 := ⟨_, rfl⟩
  have hq0 : (u : Int) / 32 = (b0 : Int) := by omega
  have hq0' : (u : Int).tdiv 32 = (b0 : Int) := by
    rw [Int.tdiv_eq_ediv_of_nonneg (by omega)]
    exact hq0
  obtain ⟨jt, ejt⟩ : ∃ jt, jt = wrote u q := ⟨_, rfl⟩
  have hjt : 32 * (b0 + jt) < u + q + 32 ∧ u + q ≤ 32 * (b0 + jt) ∧ b0 + jt ≤ k := by
    have := EL.out
    unfold wrote at ejt
    omega
  have hbK : (b0 : Int) ≤ 65536 := by omega
  have EB0 := Lib.hid eb0
  have EJT := Lib.hid ejt
  have HJT := Lib.hid hjt
  obtain ⟨X2, eX2⟩ : ∃ X2, X2 = putAt X u (frame l) := ⟨_, rfl⟩
  rw [← eX2] at HJ3 HPL
  have EX2 := Lib.hid eX2
  clear eb0 ejt hjt eX2
  go_wp2_with fail
  clear hq0 hq0'
  go_loopw [8] (fun i wr => ∃ i' : Nat, i = .int .i64 (i' : Int) ∧ b0 ≤ i' ∧ i' ≤ b0 + jt ∧ Dk wr (grow Z W3 wr) p n F (cs ++ wto X2 f b0 (i' - b0)) (m + (i' - b0)) ∧ PJ wr pj g p f k X2 u ∧ Turned Z W3 wr) (fun i _ => b0 + jt - (intOf i).toNat)
  case atStart => exact ⟨b0, rfl, Nat.le_refl _, by omega, by
    rw [Nat.sub_self]
    unfold wto
    rw [List.append_nil]
    exact (HD.out.turned HT3.out (fun x hx e => HZ.out.2 (e ▸ hx))).wide (fun j hj => .inl hj) (fun j hj => hj.elim (fun hj => Nat.lt_of_lt_of_le (HD.out.zlt j hj) HT3.out.size) (fun hj => hj.2)), HJ3.out, Turned.refl _ _⟩
  case round =>
    obtain ⟨i, rfl, hi0, hi1, hdi, hji, hti⟩ := hrel
    have hgr : ¬ grow Z W3 wr pj ∧ ¬ grow Z W3 wr g := by
      have h1 := HJ3.out.lt
      exact ⟨fun h => h.elim HZ.out.1 (fun h => by omega), fun h => h.elim HZ.out.2 (fun h => by omega)⟩
    by_cases hlt : i < b0 + jt
    · have hjt := HJT.out
      have hcond : (i : Int) * 32 < (u : Int) + (q : Int) := by omega
      have hik : i < k := by omega
      have hii : (i : Int) ≤ 65536 := by omega
      have hwr := jp_write hdi hji hgr (by have := HM.out; omega) hn HFK.out i hik
      have hcs : cs ++ wto X2 f b0 (i - b0) ++ [⟨false, ((f + i : Nat) : Int), (X2.drop (32 * i)).take 32⟩] = cs ++ wto X2 f b0 (i + 1 - b0) := by
        rw [List.append_assoc, show i + 1 - b0 = (i - b0) + 1 by omega]
        show _ = cs ++ (wto X2 f b0 (i - b0) ++ [⟨false, ((f + (b0 + (i - b0)) : Nat) : Int), (X2.drop (32 * (b0 + (i - b0)))).take 32⟩])
        rw [show b0 + (i - b0) = i by omega]
      rw [hcs, show m + (i - b0) + 1 = m + (i + 1 - b0) by omega] at hwr
      have HWR := Lib.hid hwr
      have HTI := Lib.hid hti
      have q2 : IntKind.i64.wrap ((i : Int) * 32) = (i : Int) * 32 := IntWalk.i64_in _ (by omega)
      clear hdi hji hti hgr hwr hcs hjt
      go_wp2_with fail
      go_at_call 42
      (with_reducible refine HWR.out.mono ?_)
      rintro e w7 ⟨rfl, hd7, hj7, ht7⟩
      have hs7 := ht7.size
      have hs0 := HTI.out.size
      have hd7' : Dk w7 (grow Z W3 w7) p n F (cs ++ wto X2 f b0 (i + 1 - b0)) (m + (i + 1 - b0)) := hd7.wide (fun x hx => by
        rcases hx with (hx | hx) | hx
        · exact .inl hx
        · exact .inr ⟨hx.1, by omega⟩
        · exact .inr ⟨by omega, hx.2⟩) (fun x hx => hx.elim (fun hx => by have := HD.out.zlt x hx; have := HT3.out.size; omega) (fun hx => hx.2))
      have ht7' : Turned Z W3 w7 := HTI.out.trans ht7 (fun x hx h => h.elim id (fun h => by omega))
      have HD7 := Lib.hid hd7'
      have HJ7 := Lib.hid hj7
      have HT7 := Lib.hid ht7'
      clear hd7 hj7 ht7 hd7' ht7' hs7 hs0
      go_wp2_with fail
      go_roundw
      case rel => exact ⟨i + 1, by go_num, by omega, by omega, HD7.out, HJ7.out, HT7.out⟩
      case measure => simp [intOf]; omega
    · have hij : i = b0 + jt := by omega
      have hcond : ¬ (i : Int) * 32 < (u : Int) + (q : Int) := by have := HJT.out; omega
      have hii : (i : Int) ≤ 65537 := by have := HJT.out; omega
      have q2 : IntKind.i64.wrap ((i : Int) * 32) = (i : Int) * 32 := IntWalk.i64_in _ (by omega)
      have x3 := hji.c3
      have z3 : wr.frozen? ⟨pj, 3, none⟩ = false := frozen_of_row wr pj 3 _ _ hji.1
      obtain ⟨W8, e8⟩ : ∃ W8, W8 = wr.setCell ⟨pj, 3, none⟩ (.int .i64 ((u : Int) + (q : Int))) := ⟨_, rfl⟩
      have hJ8 := hji.used (u + q)
      rw [Int.natCast_add, ← e8] at hJ8
      have hts : Turned (fun j => j = pj) wr W8 := by rw [e8]; exact turned_setCell wr pj 3 _
      have hd8 := hdi.turned hts (fun x hx e => hgr.1 (e ▸ hx))
      rw [show i - b0 = jt by omega] at hd8
      have ht8 : Turned (fun x => Z x ∨ x = g ∨ x = pj) w W8 := ((HT3.out.widen (T := fun x => Z x ∨ x = g ∨ x = pj) (fun x h => .inr (.inl h))).trans (hti.widen (T := fun x => Z x ∨ x = g ∨ x = pj) (fun x h => .inl h)) (fun _ _ h => h)).trans hts (fun x _ h => .inr (.inr h))
      have HD8 := Lib.hid hd8
      have HJ8 := Lib.hid hJ8
      have HT8 := Lib.hid ht8
      have HE8 := Lib.hid e8
      have HGR := Lib.hid hgr
      have HW3 := Lib.hid HT3.out.size
      clear hdi hji hti hgr e8 hJ8 hts hd8 ht8 hij
      go_wp2_with fail
      rw [← HE8.out]
      go_ret
      have hnx : nextOf (reg (con F cs) f k) l u = X2 := by rw [EX2.out, ← EX.out]; rfl
      refine ⟨rfl, grow Z W3 wr, ?_, ?_, fun x hx => hx.imp id (fun hx => Nat.le_trans HW3.out hx.1), HGR.out.1, HGR.out.2, HT8.out⟩
      · rw [hnx, ← EB0.out, ← HQ.out, ← EJT.out]
        exact HD8.out.more (by have := HJT.out; omega)
      · rw [hnx, ← HQ.out]
        exact HJ8.out
end Go.Proofs.Ytpfdlcogldbocaa
