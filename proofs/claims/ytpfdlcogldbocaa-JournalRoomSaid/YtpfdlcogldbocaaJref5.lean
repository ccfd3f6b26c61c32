/-
  The document's answer's Append. Condition: its disk and its journal lie in memory.
-/
import Derived.Test.YtpfdlcogldbocaaRowCopy
import Derived.Deep.RegionHeld3
namespace Go.Proofs.Ytpfdlcogldbocaa
open Go.RowKit Go.Deep Go.Maps

def nextOf (R l : List UInt8) (u : Nat) : List UInt8 := R.take u ++ frame l ++ R.drop (u + (frame l).length)
theorem length_nextOf {R l : List UInt8} {u : Nat} (h : u + (frame l).length ≤ R.length) : (nextOf R l u).length = R.length := by
  unfold nextOf
  rw [List.length_append, List.length_append, List.length_take, List.length_drop]
  omega
/-- How many blocks m bytes behind u touch. -/
def wrote (u m : Nat) : Nat := (u + m + 31) / 32 - u / 32

def AppendAns (Z Y : Nat → Prop) (pj q n f k : Nat) (F : Int → Option (List UInt8)) (cs : List CallM) (ls : List (List UInt8)) (l : List UInt8) (w : World) (e : Ending) (w' : World) : Prop :=
  e = .returned (.int .i64 0) ∧ ∃ Y' Z', RefJ w' Y' pj q f k (ls ++ [l]) ∧ Rk w' Z' q n F (cs ++ wto (nextOf (reg (con F cs) f k) l (frames ls).length) f ((frames ls).length / 32) (wrote (frames ls).length (frame l).length)) ∧
    (∀ j, Y' j → ¬ Z' j) ∧ (∀ j, Y' j → Y j ∨ w.heap.size ≤ j) ∧ (∀ j, Z' j → Z j ∨ w.heap.size ≤ j) ∧ Turned (fun j => Z j ∨ j = pj) w w'

set_option maxRecDepth 100000 in
set_option maxHeartbeats 4000000 in
theorem jref_append {w : World} {Z Y : Nat → Prop} {pj q n f k : Nat} {F : Int → Option (List UInt8)} {cs : List CallM} {ls : List (List UInt8)} (h : Rk w Z q n F cs) (hj : RefJ w Y pj q f k ls) (hd : ∀ j, Y j → ¬ Z j) (hF : Blocks32 F) (hok : ∀ c ∈ cs, c.ok) (hc : cs.length ≤ 1048576 - 65536) (hn : n ≤ 65536) (hfk : f + k ≤ n)
    (A : Option Addr) (l : List UInt8) (cap : Nat) (hA : BytesAt w A l) (hAZ : 0 < l.length → ∀ g o, A = some ⟨g, o, none⟩ → ¬ Z g ∧ g ≠ pj) (hr : RecOk l) (hroom : (frames ls).length + (frame l).length ≤ 32 * k) :
    Calls Try.prog 13 #[.pointer (some ⟨pj, 0, none⟩), .slice A l.length cap] w (AppendAns Z Y pj q n f k F cs ls l w) := by
  have hj0 := hj
  obtain ⟨AL, cL, hbox, hrow, hYp, hYl⟩ := hj
  have HW := Lib.hid (refWrap_ok A l cap w hA hr)
  obtain ⟨nl, enl⟩ : ∃ nl, nl = l.length := ⟨_, rfl⟩
  have hrl := hr.2
  have h32 := con_all32 hF hok
  have hlr := length_reg h32 f k
  obtain ⟨R, eR⟩ : ∃ R, R = reg (con F cs) f k := ⟨_, rfl⟩
  obtain ⟨u, eu⟩ : ∃ u, u = (frames ls).length := ⟨_, rfl⟩
  have hlf := length_frame l
  rw [← eR] at hlr
  rw [← eu] at hroom
  have hk : k ≤ 65536 := by omega
  have hub : u ≤ 2097152 := by omega
  have hnl : nl ≤ 4096 := by omega
  have HUS := Lib.hid fun (W : World) (hb : Below w.heap.size w W) => jref_used (hj0.below hb) (by omega)
  have HRO := Lib.hid fun (W : World) (hb : Below w.heap.size w W) => jref_room (hj0.below hb) (by omega) hk
  have HBY := Lib.hid fun (W : World) (hb : Below w.heap.size w W) => jref_bytes (h.below hb) hF hok (by omega) hn f k hfk
  rw [← eR] at HBY
  rw [← eu] at HUS HRO
  rw [← enl] at HW ⊢
  have HR := Lib.hid h
  have HJ := Lib.hid hj0
  have HD := Lib.hid hd
  have HF := Lib.hid hF
  have HOK := Lib.hid hok
  have HC := Lib.hid hc
  have HA := Lib.hid hA
  have HAZ := Lib.hid hAZ
  have HX := Lib.hid hbox
  have HROW := Lib.hid hrow
  have HYP := Lib.hid hYp
  have HYL := Lib.hid hYl
  have HREC := Lib.hid hr
  have ER := Lib.hid eR
  have EU := Lib.hid eu
  have ENL := Lib.hid enl
  have HLR := Lib.hid hlr
  have HLF := Lib.hid hlf
  have HROOM := Lib.hid hroom
  clear h hj0 hd hF hok hc hA hAZ hbox hrow hYp hYl hr eR eu enl hlr hlf hroom h32 hrl
  go_enter Try.func13, Try.ntmps13
  go_wp2_with fail
  go_at_call 43
  (with_reducible refine (HW.out).mono ?_)
  rintro e W1 ⟨v, rfl, g1, m, c1, rfl, hm, hown1, hb1⟩
  have hmm : m ≤ 8192 := by rw [hm, HLF.out, ← ENL.out]; omega
  have hm0 : 0 < m := by rw [hm, HLF.out]; omega
  have hfit : ¬ 32 * (k : Int) - (u : Int) < (m : Int) := by have := HROOM.out; omega
  have hum : u + m ≤ 32 * k := by have := HROOM.out; omega
  have HM := Lib.hid hm
  have HO1 := Lib.hid hown1
  have HB1 := Lib.hid hb1
  have HUS1 := Lib.hid (HUS.out W1 hb1)
  have HRO1 := Lib.hid (HRO.out W1 hb1)
  clear hm hown1 hb1
  go_wp2_with fail
  go_at_call 44
  (with_reducible refine (HUS1.out).mono ?_)
  rintro e w' ⟨rfl, rfl⟩
  go_wp2_with fail
  go_at_call 26
  (with_reducible refine (HRO1.out).mono ?_)
  rintro e w' ⟨rfl, N, rfl⟩
  have hbd : Below w.heap.size w (W1.drewN (N + 1)) := ⟨HB1.out.os, HB1.out.tape, HB1.out.output, HB1.out.size, HB1.out.block⟩
  have hboxd : (W1.drewN N).heap[pj]? = _ := Below.obj HB1.out HX.out (HYL.out pj HYP.out)
  have p0 : (W1.drewN N).cell? ⟨pj, 0, none⟩ = some (.pointer (some ⟨q, 0, none⟩)) := cell_of_row _ _ 0 _ _ _ hboxd
  have p1 : (W1.drewN N).cell? ⟨pj, 1, none⟩ = some (.int .i64 (f : Int)) := cell_of_row _ _ 1 _ _ _ hboxd
  have p2 : (W1.drewN N).cell? ⟨pj, 2, none⟩ = some (.int .i64 (k : Int)) := cell_of_row _ _ 2 _ _ _ hboxd
  have hpl : pj < (W1.drewN (N + 1)).heap.size := Nat.lt_of_lt_of_le (HYL.out pj HYP.out) HB1.out.size
  have HBYd := Lib.hid ((HBY.out _ hbd).mono fun e w2 (h : NewV R _ e w2) => (⟨h, by
    obtain ⟨_, _, _, hb⟩ := h
    exact (hb.cell (p := ⟨pj, 0, none⟩) hpl).trans p0, by
    obtain ⟨_, _, _, hb⟩ := h
    exact (hb.cell (p := ⟨pj, 1, none⟩) hpl).trans p1, by
    obtain ⟨_, _, _, hb⟩ := h
    exact (hb.cell (p := ⟨pj, 2, none⟩) hpl).trans p2⟩ : NewV R (W1.drewN (N + 1)) e w2 ∧ w2.cell? ⟨pj, 0, none⟩ = some (.pointer (some ⟨q, 0, none⟩)) ∧ w2.cell? ⟨pj, 1, none⟩ = some (.int .i64 (f : Int)) ∧ w2.cell? ⟨pj, 2, none⟩ = some (.int .i64 (k : Int))))
  have HBD := Lib.hid hbd
  clear hbd hboxd hpl
  go_wp2_with fail
  go_region_held3 (fun x => x.cell? ⟨pj, 0, none⟩ = some (.pointer (some ⟨q, 0, none⟩)) ∧ x.cell? ⟨pj, 1, none⟩ = some (.int .i64 (f : Int)) ∧ x.cell? ⟨pj, 2, none⟩ = some (.int .i64 (k : Int)))
    ((go_split_ands; refine ⟨?_, ?_, ?_⟩ <;> first | assumption | exact p0 | exact p1 | exact p2))
    ((go_at_call 39; (with_reducible refine HBYd.out.mono ?_); rintro e W2 ⟨⟨v2, rfl, hown2, hb2⟩, d0, d1, d2⟩))
  obtain ⟨A2, c2, rfl, hbA2, hl2, hm2⟩ := hown2.bytes
  have hlen2 := HLR.out
  obtain ⟨K, eK⟩ : ∃ K, K = R.length := ⟨_, rfl⟩
  have hKk : K = 32 * k := by rw [eK]; exact hlen2
  have hbw2 : Below w.heap.size w W2 := HBD.out.trans (hb2.mono HB1.out.size)
  rw [← eK] at hl2 ⊢
  have hs1 : ∀ W, (Instr.sliceAt 39 (.slice A2 K c2) none (some (.int .i64 (u : Int))) none).run Try.prog W = .ok (.slice A2 u c2) W := fun W => u8_slice_to (by omega) hm2
  have hs2 : ∀ W, (Instr.sliceAt 39 (.slice A2 K c2) (some (.int .i64 ((u : Int) + (m : Int)))) none none).run Try.prog W = .ok (.slice (if c2 = u + m then A2 else A2.map (·.add (u + m))) (K - (u + m)) (c2 - (u + m))) W := fun W => u8_slice_from (k := u + m) (by omega) (by omega) hm2
  obtain ⟨A3, eA3⟩ : ∃ A3, A3 = (if c2 = u + m then A2 else A2.map (·.add (u + m))) := ⟨_, rfl⟩
  have hbA3 : ∀ W, BytesAt W A2 R → BytesAt W A3 (R.drop (u + m)) := fun W hW => by
    rw [eA3]
    split
    · have : R.drop (u + m) = [] := List.drop_eq_nil_of_le (by omega)
      rw [this]
      exact BytesAt.nil _ _
    · exact hW.drop _
  simp only [← eA3] at hs2
  have HA2 := Lib.hid hbA2
  have HA3 := Lib.hid hbA3
  have HB2 := Lib.hid hbw2
  have EK := Lib.hid eK
  have HKK := Lib.hid hKk
  have hO1 := Lib.hid (HO1.out.bytes.below (show Below W1.heap.size W1 W2 from ⟨hb2.os, hb2.tape, hb2.output, hb2.size, hb2.block⟩))
  have hKb : K ≤ 2097152 := by omega
  obtain ⟨K3, eK3⟩ : ∃ K3, K3 = K - (u + m) := ⟨_, rfl⟩
  simp only [← eK3] at hs2
  have HK3 : Hid (K3 = (R.drop (u + m)).length) := Lib.hid (by rw [List.length_drop, ← eK]; exact eK3)
  have HK32 : Hid (K3 + (u + m) = K) := Lib.hid (by omega)
  have HUK : Hid (u = (R.take u).length) := Lib.hid (by rw [List.length_take]; omega)
  have re := run_empty
  clear hown2 hb2 hbA2 hl2 hm2 hlen2 hbw2 eA3 hbA3 hKk eK3 eK p0 p1 p2
  go_wp2_with ((refine wpList_append_bytes (k := u) 43 (Own.start' _ _ rfl) ((HA2.out.take u).alloc _) HUK.out rfl rfl ?_ (by simp) ?_))
  · omega
  intro g4 c4 W4 hown4 hgr4 _
  have hb4 : Below W2.heap.size W2 W4 := ((Below.refl _ W2).alloc (Nat.le_refl _) _).grown hgr4 (by simp) (fun k hk => by injection hk with hk; omega)
  simp only [Nat.zero_add, List.nil_append] at hown4 ⊢
  have HO4 := Lib.hid hown4
  have HB4 := Lib.hid hb4
  clear hown4 hgr4 hb4
  go_wp2_with ((refine wpList_append_bytes (k := m) 45 HO4.out (hO1.out.below HB4.out) HM.out rfl rfl ?_ HB4.out.size ?_))
  · omega
  intro g5 c5 W5 hown5 hgr5 _
  have hb5 : Below W2.heap.size W2 W5 := HB4.out.grown hgr5 HB4.out.size (fun k hk => by injection hk with hk; have := HO4.out.ge; omega)
  have HO5 := Lib.hid hown5
  have HB5 := Lib.hid hb5
  clear hown5 hgr5 hb5
  have hum2 : (u : Int) + (m : Int) ≤ 2097152 := by omega
  go_wp2_with ((refine wpList_append_bytes (k := K3) 53 HO5.out (HA3.out _ (HA2.out.below HB5.out)) HK3.out rfl rfl ?_ HB5.out.size ?_))
  · have := HK32.out; omega
  intro g6 c6 W6 hown6 hgr6 _
  have hb6 : Below W2.heap.size W2 W6 := HB5.out.grown hgr6 HB5.out.size (fun k hk => by injection hk with hk; have := HO5.out.ge; omega)
  have hNX : R.take u ++ frame l ++ R.drop (u + m) = nextOf R l u := by
    unfold nextOf
    rw [HM.out]
  rw [hNX] at hown6
  have hK6 : u + m + K3 = K := by have := HK32.out; omega
  rw [hK6] at hown6 ⊢
  have hc6 := hown6.le
  have hc6m := hown6.cap
  obtain ⟨b0, eb0⟩ : ∃ b0, b0 = u / 32 := ⟨_, rfl⟩
  have hq : (u : Int) / 32 = (b0 : Int) := by omega
  obtain ⟨jt, ejt⟩ : ∃ jt, jt = wrote u m := ⟨_, rfl⟩
  have hjt : 32 * (b0 + jt) < u + m + 32 ∧ u + m ≤ 32 * (b0 + jt) ∧ b0 + jt ≤ k := by
    have := HKK.out
    unfold wrote at ejt
    omega
  have hbw6 : Below w.heap.size w W6 := HB2.out.trans (hb6.mono HB2.out.size)
  have HO6 := Lib.hid hown6
  have HB6 := Lib.hid hb6
  have HW6 := Lib.hid hbw6
  have HC6 := Lib.hid hc6
  have HC6M := Lib.hid hc6m
  have EB0 := Lib.hid eb0
  have EJT := Lib.hid ejt
  have HJT := Lib.hid hjt
  have hbK : (b0 : Int) ≤ 65536 := by have := hjt.2.2; omega
  clear hown6 hgr6 hb6 hNX hK6 hc6 hc6m eb0 ejt hjt hbw6 hs1 hs2 re d0 d1 d2
  go_wp2_with fail
  clear hq
  go_loopw [10] (fun i wr => ∃ i' : Nat, i = .int .i64 (i' : Int) ∧ b0 ≤ i' ∧ i' ≤ b0 + jt ∧ Rk wr (grow Z W6 wr) q n F (cs ++ wto (nextOf R l u) f b0 (i' - b0)) ∧ Turned Z W6 wr) (fun i _ => b0 + jt - (intOf i).toNat)
  case atStart => exact ⟨b0, rfl, Nat.le_refl _, by omega, by
    rw [Nat.sub_self]
    unfold wto
    rw [List.append_nil]
    exact (HR.out.below HW6.out).wide (fun j hj => .inl hj) (fun j hj => hj.elim (fun hj => Nat.lt_of_lt_of_le (HR.out.zlt j hj) HW6.out.size) (fun hj => hj.2)), Turned.refl _ _⟩
  case round =>
    obtain ⟨i, rfl, hi0, hi1, hri, hti⟩ := hrel
    by_cases hlt : i < b0 + jt
    · have hcond : 32 * (i : Int) < (u : Int) + (m : Int) := by have := HJT.out; omega
      have hik : i < k := by have := HJT.out; omega
      have hii : (i : Int) ≤ 65536 := by omega
      have hboxi := (hti.obj (Below.obj HW6.out HX.out (HYL.out pj HYP.out)) (HD.out pj HYP.out))
      have p0 : wr.cell? ⟨pj, 0, none⟩ = some (.pointer (some ⟨q, 0, none⟩)) := cell_of_row _ _ 0 _ _ _ hboxi
      have p1 : wr.cell? ⟨pj, 1, none⟩ = some (.int .i64 (f : Int)) := cell_of_row _ _ 1 _ _ _ hboxi
      have hO6 : Own wr W2.heap.size g6 K c6 (nextOf R l u) := ⟨ownsRow_turned HO6.out.1 hti (fun x hx hz => by
        have e : some g6 = some x := hx
        injection e with e
        subst e
        have h1 := HO6.out.ge
        have h2 := HR.out.zlt _ hz
        have := HB2.out.size
        omega), HO6.out.2⟩
      have hsl : ∀ W, (Instr.sliceAt 39 (.slice (some ⟨g6, 0, none⟩) K c6) (some (.int .i64 (32 * (i : Int)))) (some (.int .i64 (32 * (i : Int) + 32))) none).run Try.prog W = .ok (.slice (some ⟨g6, 32 * i, none⟩) 32 (c6 - 32 * i)) W := fun W => by
        have h1 := HC6.out
        have h2 := HKK.out
        have := u8_slice_mid (W := W) (A := some ⟨g6, 0, none⟩) (n := K) (cap := c6) (k := 32 * i) (m := 32 * i + 32) (by omega) (by omega) (by omega) HC6M.out
        rw [Nat.add_sub_cancel_left, Option.map_some, Addr.add_mid, Nat.zero_add] at this
        simpa using this
      obtain ⟨bl, ebl⟩ : ∃ bl, bl = ((nextOf R l u).drop (32 * i)).take 32 := ⟨_, rfl⟩
      have hNL : (nextOf R l u).length = 32 * k := by
        rw [length_nextOf (by rw [HLR.out, ← HM.out]; exact hum), HLR.out]
      have hbl : bl.length = 32 := by
        rw [ebl, List.length_take, List.length_drop, hNL]
        omega
      have hbb : BytesAt wr (some ⟨g6, 32 * i, none⟩) bl := by
        have := (hO6.bytes.drop (32 * i)).take 32
        rw [Option.map_some, Addr.add_mid, Nat.zero_add, ← ebl] at this
        exact this
      have hlen : (cs ++ wto (nextOf R l u) f b0 (i - b0)).length ≤ 1073741824 := by
        rw [List.length_append, wto_len]
        have := HC.out
        omega
      have hout : ∀ x, grow Z W6 wr x → x ≠ pj ∧ x ≠ g6 := fun x hx => by
        have h1 := HYL.out pj HYP.out
        have h2 := HW6.out.size
        have h3 := HO6.out.ge
        have h4 := HO6.out.lt
        have h5 := HB2.out.size
        rcases hx with hx | hx
        · have := HR.out.zlt x hx
          exact ⟨fun e => HD.out pj HYP.out (e ▸ hx), by omega⟩
        · exact ⟨by omega, by omega⟩
      have hwr := rk_write hri.drew hlen hn ((f : Int) + (i : Int)) bl (some ⟨g6, 32 * i, none⟩) (c6 - 32 * i) 32 hbl.symm (fun x y hx => hbb x y hx) (fun _ g o e hz => by
        injection e with e
        exact (hout g hz).2 (Addr.mk.inj e).1.symm)
      have hg : wGood n ((f : Int) + (i : Int)) bl := ⟨by omega, by omega, hbl⟩
      have hcode : wCode n ((f : Int) + (i : Int)) bl = 0 := by
        unfold wCode
        rw [if_pos ⟨hg.1, hg.2.1⟩, if_pos hbl]
      have hcs : wCs n (cs ++ wto (nextOf R l u) f b0 (i - b0)) ((f : Int) + (i : Int)) bl = cs ++ wto (nextOf R l u) f b0 (i + 1 - b0) := by
        unfold wCs
        rw [if_pos hg, List.append_assoc, show i + 1 - b0 = (i - b0) + 1 by omega]
        show _ = cs ++ (wto (nextOf R l u) f b0 (i - b0) ++ [⟨false, ((f + (b0 + (i - b0)) : Nat) : Int), ((nextOf R l u).drop (32 * (b0 + (i - b0)))).take 32⟩])
        rw [show b0 + (i - b0) = i by omega, ← ebl, Int.natCast_add]
      rw [hcode, hcs] at hwr
      have HWR := Lib.hid (hwr.mono fun e w7 (h : RkIs _ _ _ _ _ _ _ e w7) => (⟨h, h.2.2.cell (a := wr.drew) p0 (fun h => (hout pj h).1 rfl), h.2.2.cell (a := wr.drew) p1 (fun h => (hout pj h).1 rfl)⟩ : RkIs (grow Z W6 wr) q n F (cs ++ wto (nextOf R l u) f b0 (i + 1 - b0)) wr.drew 0 e w7 ∧ w7.cell? ⟨pj, 0, none⟩ = some (.pointer (some ⟨q, 0, none⟩)) ∧ w7.cell? ⟨pj, 1, none⟩ = some (.int .i64 (f : Int))))
      have HTI := Lib.hid hti
      have q1 : IntKind.i64.wrap ((f : Int) + (i : Int)) = (f : Int) + (i : Int) := IntWalk.i64_in _ (by omega)
      have q2 : IntKind.i64.wrap (32 * (i : Int)) = 32 * (i : Int) := IntWalk.i64_in _ (by omega)
      have q3 : IntKind.i64.wrap (32 * (i : Int) + 32) = 32 * (i : Int) + 32 := IntWalk.i64_in _ (by omega)
      clear hri hti hboxi hO6 ebl hNL hbl hbb hlen hout hwr hg hcode hcs
      go_wp2_with fail
      go_region_held3 (fun x => x.cell? ⟨pj, 0, none⟩ = some (.pointer (some ⟨q, 0, none⟩)) ∧ x.cell? ⟨pj, 1, none⟩ = some (.int .i64 (f : Int)))
        ((go_split_ands; refine ⟨?_, ?_⟩ <;> first | assumption | exact p0 | exact p1))
        ((go_at_call 17; (with_reducible refine HWR.out.mono ?_); rintro e w7 ⟨⟨rfl, hr7, ht7⟩, d0, d1⟩))
      have hr7' : Rk w7 (grow Z W6 w7) q n F (cs ++ wto (nextOf R l u) f b0 (i + 1 - b0)) := hr7.wide (fun x hx => by
        rcases hx with (hx | hx) | hx
        · exact .inl hx
        · exact .inr ⟨hx.1, Nat.lt_of_lt_of_le hx.2 ht7.size⟩
        · exact .inr ⟨Nat.le_trans HTI.out.size hx.1, hx.2⟩) (fun x hx => hx.elim (fun hx => Nat.lt_of_lt_of_le (HR.out.zlt x hx) (Nat.le_trans HW6.out.size (Nat.le_trans HTI.out.size ht7.size))) (fun hx => hx.2))
      have ht7' : Turned Z W6 w7 := HTI.out.drew.trans ht7 (fun x hx hz => hz.elim id (fun h => absurd hx (by omega)))
      have HR7 := Lib.hid hr7'
      have HT7 := Lib.hid ht7'
      clear hr7 ht7 hr7' ht7' q1 q2 q3 d0 d1 hsl
      go_wp2_with fail
      go_roundw
      case rel => exact ⟨i + 1, by go_num, by omega, by omega, HR7.out, HT7.out⟩
      case measure => simp [intOf]; omega
    · have hij : i = b0 + jt := by omega
      have hcond : ¬ 32 * (i : Int) < (u : Int) + (m : Int) := by have := HJT.out; omega
      have hii : (i : Int) ≤ 65537 := by have := HJT.out; omega
      have hboxi := (hti.obj (Below.obj HW6.out HX.out (HYL.out pj HYP.out)) (HD.out pj HYP.out))
      have p3 : wr.cell? ⟨pj, 3, none⟩ = some (.slice AL ls.length cL) := cell_of_row _ _ 3 _ _ _ hboxi
      have htw : Turned Z w wr := (Turned.of_below (S := Z) HW6.out).trans hti (fun x hx hz => hz)
      have hroww : RowsIn wr (fun j => Y j ∧ j ≠ pj) AL ls := HROW.out.turned htw (fun j hj => HD.out j hj.1)
      have hbAw : BytesAt wr A l := fun x y hx => by
        obtain ⟨g, o, e, hc⟩ := HA.out x y hx
        exact ⟨g, o, e, htw.cell hc (HAZ.out (by have := (List.getElem?_eq_some_iff.1 hx).1; omega) g o e).1⟩
      have hlsn : ls.length ≤ 1099511627776 := by
        have := length_frames ls
        have := EU.out
        omega
      obtain ⟨g7, c7, W7, hap7, hrow7, hb7⟩ := run_append_rows (w := wr) (Y := fun j => Y j ∧ j ≠ pj) wr.heap.size rfl AL ls cL hroww hlsn
      obtain ⟨nls, enls⟩ : ∃ nls, nls = ls.length := ⟨_, rfl⟩
      rw [← enls] at hap7 p3
      have HAP7 := Lib.hid hap7
      have HROW7 := Lib.hid hrow7
      have HB7 := Lib.hid hb7
      have HRI := Lib.hid hri
      have HTI := Lib.hid hti
      have HXI := Lib.hid hboxi
      have HTW := Lib.hid htw
      have HAW := Lib.hid hbAw
      have ENLS := Lib.hid enls
      have HIJ := Lib.hid hij
      have re := run_empty
      have rer := run_empty_rows
      have p3a : (wr.alloc (.cells #[] 39)).cell? ⟨pj, 3, none⟩ = some (.slice AL nls cL) := (World.cell?_alloc_lt wr _ _ (World.block_lt_of_cell? wr _ p3)).trans p3
      have hnls : nls ≤ 1099511627776 := by omega
      clear hap7 hrow7 hb7 hri hti hboxi htw hroww hbAw hlsn enls hij
      go_wp2_with (first | refine wpList_append_to 89 HAP7.out rfl rfl ?_ | refine wpList_append_bytes (k := nl) 92 (Own.start' _ _ rfl) ((HAW.out.below HB7.out).alloc _) ENL.out rfl rfl ?_ (by simp) ?_)
      · omega
      intro g9 c9 W8 hown9 hgr9 _
      have hb8 : Below W7.heap.size W7 W8 := ((Below.refl _ W7).alloc (Nat.le_refl _) _).grown hgr9 (by simp) (fun k hk => by injection hk with hk; omega)
      have hown9 : Own W8 W7.heap.size g9 nl c9 l := by simpa using hown9
      try simp only [Nat.zero_add]
      have hg7 : wr.heap.size ≤ g7 ∧ g7 < W7.heap.size := by
        obtain ⟨vs, h1, _⟩ := HROW7.out
        exact World.ownsRow.lt h1 g7 rfl
      have hrow8 : RowsOwn W8 wr.heap.size (fun j => (Y j ∧ j ≠ pj) ∨ W7.heap.size ≤ j ∧ j < W8.heap.size) (.slice (some ⟨g7, 0, none⟩) nls c7) ls := by
        rw [ENLS.out]
        exact HROW7.out.turned (Turned.of_below (S := fun _ => False) hb8) (fun _ _ h => h) (fun _ _ h => h) (fun _ h => .inl h)
      have hsz := HTW.out.size
      obtain ⟨g10, c10, W9, hap9, hrow9, ht9, hg10, hg10l⟩ := run_append_one hrow8 (fun h => by
          have := HB7.out.size
          rcases h with h | h
          · have := HYL.out g7 h.1
            omega
          · omega) (fun j h => by
          have := hb8.size
          have := HB7.out.size
          rcases h with h | h
          · have := HYL.out j h.1
            omega
          · exact h.2) ENLS.out hnls (by have := hb8.size; have := HB7.out.size; omega) (some ⟨g9, 0, none⟩) l c9 ⟨_, c9, rfl, fun j x hx => ⟨g9, 0, rfl, .inr ⟨hown9.ge, hown9.lt⟩, by
            obtain ⟨g', o', e', hc⟩ := hown9.bytes j x hx
            cases e'
            exact hc⟩⟩
      rw [← ENL.out] at hap9
      have HAP9 := Lib.hid hap9
      have hpw : pj < wr.heap.size := Nat.lt_of_lt_of_le (HYL.out pj HYP.out) hsz
      have hbox9 := ht9.obj (Below.obj hb8 (Below.obj HB7.out HXI.out hpw) (Nat.lt_of_lt_of_le hpw HB7.out.size)) (fun e => by omega)
      have x3 : W9.cell? ⟨pj, 3, none⟩ = some (.slice AL ls.length cL) := cell_of_row _ _ 3 _ _ _ hbox9
      have z3 : W9.frozen? ⟨pj, 3, none⟩ = false := frozen_of_row W9 pj 3 _ _ hbox9
      obtain ⟨W10, e10⟩ : ∃ W10, W10 = W9.setCell ⟨pj, 3, none⟩ (.slice (some ⟨g10, 0, none⟩) (nls + 1) c10) := ⟨_, rfl⟩
      have hbox10 := heap_setCell_same W9 pj 3 _ _ (.slice (some ⟨g10, 0, none⟩) (nls + 1) c10) hbox9
      rw [← e10] at hbox10
      have hts : Turned (fun j => j = pj) W9 W10 := by rw [e10]; exact turned_setCell W9 pj 3 _
      have HE10 := Lib.hid e10
      have HX10 := Lib.hid hbox10
      have HROW9 := Lib.hid hrow9
      have HT9 := Lib.hid ht9
      have HTS := Lib.hid hts
      have HB8 := Lib.hid hb8
      have HG : Hid ((g10 = g7 ∨ W8.heap.size ≤ g10) ∧ g10 < W9.heap.size ∧ wr.heap.size ≤ g7 ∧ g7 < W7.heap.size ∧ pj < wr.heap.size ∧ w.heap.size ≤ wr.heap.size) := Lib.hid ⟨hg10, hg10l, hg7.1, hg7.2, hpw, hsz⟩
      clear hap9 hrow9 ht9 hbox9 e10 hbox10 hts hrow8 hown9 hgr9 hb8 hg10 hg10l hg7 hpw hsz p3
      go_wp2_with (refine wpList_append_to 94 HAP9.out rfl rfl ?_)
      rw [← HE10.out]
      go_ret
      have hG := HG.out
      have h7 := HB7.out.size
      have h8 := HB8.out.size
      have h9 := HT9.out.size
      have h10 := HTS.out.size
      have h6 := HW6.out.size
      have h6i := HTI.out.size
      have hz0 : ∀ j, grow Z W6 wr j → j < wr.heap.size ∧ j ≠ pj := fun j hj => by
        refine ⟨HRI.out.zlt j hj, fun e => ?_⟩
        subst e
        rcases hj with hj | hj
        · exact HD.out _ HYP.out hj
        · have := HYL.out _ HYP.out
          omega
      have hr10 := HROW9.out.turned HTS.out (fun x hx e => by
        have e1 : some g10 = some x := hx
        injection e1 with e1
        omega) (fun j hj e => by
        rcases hj with hj | hj
        · exact hj.2 e
        · omega) (fun _ h => h)
      refine ⟨rfl, fun j => Y j ∨ wr.heap.size ≤ j ∧ j < W10.heap.size, grow Z W6 wr, ⟨some ⟨g10, 0, none⟩, c10, ?_, ?_, .inl HYP.out, fun j hj => ?_⟩, ?_, fun j hj hz => ?_, fun j hj => ?_, fun j hj => ?_, ?_⟩
      · rw [List.length_append, ← ENLS.out]
        exact HX10.out
      · exact hr10.rows ⟨.inr ⟨by omega, by omega⟩, by omega⟩ (fun j hj => by
          rcases hj with hj | hj
          · exact ⟨.inl hj.1, hj.2⟩
          · exact ⟨.inr ⟨by omega, by omega⟩, by omega⟩)
      · rcases hj with hj | hj
        · have := HYL.out j hj
          omega
        · exact hj.2
      · rw [← ER.out, ← EU.out, ← HM.out, ← EB0.out, ← EJT.out]
        have e : i - b0 = jt := by have := HIJ.out; omega
        have hrk := HRI.out
        rw [e] at hrk
        exact (((hrk.below HB7.out).turned (Turned.of_below (S := fun _ => False) HB8.out) (fun _ _ h => h)).turned HT9.out (fun j hj e => by have := hz0 j hj; omega)).turned HTS.out (fun j hj e => (hz0 j hj).2 e)
      · have h1 := hz0 j hz
        rcases hj with hj | hj
        · rcases hz with hz | hz
          · exact HD.out j hj hz
          · have := HYL.out j hj
            omega
        · omega
      · exact hj.imp id (fun h => by omega)
      · exact hj.imp id (fun h => by omega)
      · exact ((((HTW.out.widen (T := fun j => Z j ∨ j = pj) (fun j h => .inl h)).trans (Turned.of_below (S := fun _ => False) HB7.out) (fun _ _ h => h.elim)).trans (Turned.of_below (S := fun _ => False) HB8.out) (fun _ _ h => h.elim)).trans HT9.out (fun x hx e => by omega)).trans HTS.out (fun x hx e => .inr e)
end Go.Proofs.Ytpfdlcogldbocaa
