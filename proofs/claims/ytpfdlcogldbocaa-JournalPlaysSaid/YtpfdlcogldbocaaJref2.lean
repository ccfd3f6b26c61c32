/-
  What the document's answer does to a region's bytes behind the first n: noughts, block by block from the last one on. Condition: its disk and its journal lie in memory.
-/
import Derived.Test.YtpfdlcogldbocaaJref1
import Derived.Deep.RegionHeld3
namespace Go.Proofs.Ytpfdlcogldbocaa
open Go.RowKit Go.Deep Go.Maps

/-- A block's bytes of which the first t are gone through. -/
def zst (m i : Nat) (b : List UInt8) (t : Nat) : List UInt8 := (zb m i b).take t ++ b.drop t
theorem length_zst {m i t : Nat} {b : List UInt8} (h : b.length = 32) (ht : t ≤ 32) : (zst m i b t).length = 32 := by
  unfold zst
  rw [List.length_append, List.length_take, List.length_drop, length_zb h, h]
  omega
theorem zst_get {m i t j : Nat} {b : List UInt8} (h : b.length = 32) (ht : t ≤ 32) (hj : j < 32) : (zst m i b t)[j]? = if j < t ∧ m ≤ 32 * i + j then some 0 else b[j]? := by
  unfold zst
  by_cases hjt : j < t
  · rw [List.getElem?_append_left (by rw [List.length_take, length_zb h]; omega), List.getElem?_take, if_pos hjt, zb_get h hj]
    by_cases hm : 32 * i + j < m
    · rw [if_pos hm, if_neg (by omega)]
    · rw [if_neg hm, if_pos ⟨hjt, by omega⟩]
  · rw [List.getElem?_append_right (by rw [List.length_take, length_zb h]; omega), List.getElem?_drop, List.length_take, length_zb h, if_neg (by omega)]
    congr 1
    omega
theorem zst_set {m i t : Nat} {b : List UInt8} (h : b.length = 32) (ht : t < 32) (hm : m ≤ 32 * i + t) : (zst m i b t).set t 0 = zst m i b (t + 1) := by
  refine List.ext_getElem? fun j => ?_
  by_cases hj : j < 32
  · rw [zst_get h (by omega) hj]
    by_cases e : j = t
    · subst e
      rw [List.getElem?_set_self (by rw [length_zst h (by omega)]; exact hj), if_pos ⟨by omega, hm⟩]
    · rw [List.getElem?_set_ne (Ne.symm e), zst_get h (by omega) hj]
      by_cases hjt : j < t ∧ m ≤ 32 * i + j
      · rw [if_pos hjt, if_pos ⟨by omega, hjt.2⟩]
      · rw [if_neg hjt, if_neg (by omega)]
  · rw [List.getElem?_eq_none (by rw [List.length_set, length_zst h (by omega)]; omega), List.getElem?_eq_none (by rw [length_zst h (by omega)]; omega)]
theorem zst_same {m i t : Nat} {b : List UInt8} (h : b.length = 32) (ht : t < 32) (hm : 32 * i + t < m) : zst m i b t = zst m i b (t + 1) := by
  refine List.ext_getElem? fun j => ?_
  by_cases hj : j < 32
  · rw [zst_get h (by omega) hj, zst_get h (by omega) hj]
    by_cases hjt : j < t ∧ m ≤ 32 * i + j
    · rw [if_pos hjt, if_pos ⟨by omega, hjt.2⟩]
    · rw [if_neg hjt, if_neg (by omega)]
  · rw [List.getElem?_eq_none (by rw [length_zst h (by omega)]; omega), List.getElem?_eq_none (by rw [length_zst h (by omega)]; omega)]
theorem zst_zero {m i : Nat} {b : List UInt8} : zst m i b 0 = b := rfl
theorem zst_all {m i : Nat} {b : List UInt8} (h : b.length = 32) : zst m i b 32 = zb m i b := by
  unfold zst
  rw [List.take_of_length_le (by rw [length_zb h]; omega), List.drop_of_length_le (by omega), List.append_nil]

theorem Turned.drew {S : Nat → Prop} {a b : World} (h : Turned S a b) : Turned S a b.drew := ⟨h.os, h.tape, h.output, h.size, h.block⟩
theorem Rk.drew {w : World} {Z : Nat → Prop} {q n : Nat} {F : Int → Option (List UInt8)} {cs : List CallM} (h : Rk w Z q n F cs) : Rk w.drew Z q n F cs := h.turned (T := fun _ => False) (Turned.refl _ w).drew (fun _ _ h => h)

def ZRel (Z : Nat → Prop) (q n f k m : Nat) (F : Int → Option (List UInt8)) (cs : List CallM) (w : World) (any_ i : Value) (wr : World) : Prop :=
  ∃ j : Nat, i = .int .i64 ((k : Int) - 1 - (j : Int)) ∧ j ≤ k ∧ (∃ bb : Bool, any_ = .bool bb ∧ Hid (bb = decide (zto (con F cs) f k m j ≠ []))) ∧ Rk wr (grow Z w wr) q n F (cs ++ zto (con F cs) f k m j) ∧ Turned Z w wr
def ZAns (Z : Nat → Prop) (q n f k m : Nat) (F : Int → Option (List UInt8)) (cs : List CallM) (w : World) (e : Ending) (w' : World) : Prop :=
  e = .returned (.bool (decide (zto (con F cs) f k m k ≠ []))) ∧ Rk w' (grow Z w w') q n F (cs ++ zto (con F cs) f k m k) ∧ Turned Z w w'

set_option maxRecDepth 100000 in
set_option maxHeartbeats 4000000 in
theorem jref_zero {w : World} {Z : Nat → Prop} {q n : Nat} {F : Int → Option (List UInt8)} {cs : List CallM} (h : Rk w Z q n F cs) (hF : Blocks32 F) (hok : ∀ c ∈ cs, c.ok) (hc : cs.length ≤ 1048576) (hn : n ≤ 65536) (f k m pj : Nat) (vl : Value) (hfk : f + k ≤ n) (hm : m ≤ 2097152)
    (hbox : w.heap[pj]? = some (.cells #[.pointer (some ⟨q, 0, none⟩), .int .i64 (f : Int), .int .i64 (k : Int), vl] 56 (0, 0))) (hpj : ¬ Z pj) :
    Calls Try.prog 40 #[.pointer (some ⟨pj, 0, none⟩), .int .i64 (m : Int)] w (ZAns Z q n f k m F cs w) := by
  have HR := Lib.hid h
  have HF := Lib.hid hF
  have HOK := Lib.hid hok
  have HBX := Lib.hid hbox
  have HPJ := Lib.hid hpj
  have HC := Lib.hid hc
  have c2 : w.cell? ⟨pj, 2, none⟩ = some (.int .i64 (k : Int)) := cell_of_row _ _ 2 _ _ _ hbox
  clear h hF hok hbox hpj hc
  go_enter Try.func40, Try.ntmps40
  go_wp2_with fail
  go_loopw [5, 6] (fun a i wr => ZRel Z q n f k m F cs w a i wr) (fun _ i _ => (intOf i + 1).toNat)
  case atStart => exact ⟨0, by simp, Nat.zero_le _, ⟨_, rfl, Lib.hid rfl⟩, by
    unfold zto
    rw [List.append_nil]
    exact HR.out.wide (fun j hj => .inl hj) (fun j hj => hj.elim (HR.out.zlt j) (fun hj => hj.2)), Turned.refl _ _⟩
  case round =>
    obtain ⟨j, rfl, hj, ⟨bb, rfl, HBB⟩, hr, ht⟩ := hrel
    by_cases hjk : j < k
    · obtain ⟨i, ei⟩ : ∃ i : Nat, i = k - 1 - j := ⟨_, rfl⟩
      have ei2 : (k : Int) - 1 - (j : Int) = (i : Int) := by omega
      rw [ei2]
      have hbr := ht.obj HBX.out HPJ.out
      have p0 : wr.cell? ⟨pj, 0, none⟩ = some (.pointer (some ⟨q, 0, none⟩)) := cell_of_row _ _ 0 _ _ _ hbr
      have p1 : wr.cell? ⟨pj, 1, none⟩ = some (.int .i64 (f : Int)) := cell_of_row _ _ 1 _ _ _ hbr
      have h32 := con_all32 HF.out HOK.out
      have hok2 : ∀ c ∈ cs ++ zto (con F cs) f k m j, c.ok := fun c hcc => by
        rcases List.mem_append.1 hcc with h | h
        · exact HOK.out c h
        · exact (zto_ok h32 (by omega) j (by omega) c h).1
      have hlen : (cs ++ zto (con F cs) f k m j).length ≤ 1073741824 := by
        have := zto_len (con F cs) f k m j
        have := HC.out
        rw [List.length_append]; omega
      have hrd := rk_read hr.drew HF.out hok2 hlen hn ((f + i : Nat) : Int) (by omega) (by omega)
      rw [con_zto HF.out HOK.out (by omega) j (by omega), if_neg (by omega), Int.natCast_add] at hrd
      obtain ⟨b, eb⟩ : ∃ b, b = con F cs ((f : Int) + (i : Int)) := ⟨_, rfl⟩
      rw [← eb] at hrd
      have hb32 : b.length = 32 := by rw [eb]; exact h32 _
      have HRD := Lib.hid hrd
      have HRR := Lib.hid hr
      have HT := Lib.hid ht
      have EB := Lib.hid eb
      have EI := Lib.hid ei
      have EI2 := Lib.hid ei2
      have H32 := Lib.hid h32
      have HB32 := Lib.hid hb32
      have HOK2 := Lib.hid hok2
      have HLEN := Lib.hid hlen
      have HBR := Lib.hid hbr
      have hfi : (f : Int) + (i : Int) ≤ 65536 := by omega
      have hfi0 : 0 ≤ (f : Int) + (i : Int) := by omega
      have hik : (i : Int) ≤ 65536 := by omega
      have q1 : IntKind.i64.wrap ((f : Int) + (i : Int)) = (f : Int) + (i : Int) := IntWalk.i64_in _ (by omega)
      clear hrd hr ht eb ei ei2 h32 hb32 hok2 hlen hbr
      go_wp2_with fail
      go_region_held3 (fun x => x.cell? ⟨pj, 0, none⟩ = some (.pointer (some ⟨q, 0, none⟩)) ∧ x.cell? ⟨pj, 1, none⟩ = some (.int .i64 (f : Int)))
        ((go_split_ands; refine ⟨?_, ?_⟩ <;> first | assumption | exact p0 | exact p1))
        ((go_at_call 28; (with_reducible refine HRD.out.mono ?_); rintro e w' ⟨A, cap, rfl, hbA, hcap, hAZ, rfl⟩))
      have HBA := Lib.hid hbA
      have HAZ := Lib.hid hAZ
      have hcap' := hcap.1
      clear hbA hAZ hcap q1
      have re := run_empty
      go_wp2_with ((refine wpList_append_bytes (k := 32) 36 (Own.start' _ _ rfl) (HBA.out.alloc _) HB32.out.symm rfl rfl ?_ (by simp) ?_))
      · omega
      intro g2 c2' W2 hown2 hgr2 _
      have hb2 : Below wr.heap.size wr W2 := ((Below.refl _ wr).drew.alloc (Nat.le_refl _) _).grown hgr2 (by simp) (fun k hk => by injection hk with hk; exact Nat.le_of_eq hk)
      simp only [Nat.zero_add, List.nil_append] at hown2 ⊢
      obtain ⟨w6, ew6⟩ : ∃ w6, w6 = wr := ⟨_, rfl⟩
      have hown2 : Own W2 w6.heap.size g2 32 c2' b := by rw [ew6]; exact hown2
      rw [← ew6] at hb2 HT HRR HBA HBR HAZ
      have HO2 := Lib.hid hown2
      have HB2 := Lib.hid hb2
      have EW := Lib.hid ew6
      have hmi : (m : Int) ≤ 2097152 := by omega
      clear hown2 hgr2 hb2 ew6 p0 p1 re
      go_wp2_with fail
      go_loopw [10] (fun kk wi => ∃ t : Nat, kk = .int .i64 (t : Int) ∧ t ≤ 32 ∧ Own wi w6.heap.size g2 32 c2' (zst m i b t) ∧ Below w6.heap.size w6 wi) (fun kk _ => 32 - (intOf kk).toNat)
      case atStart => exact ⟨0, rfl, Nat.zero_le _, HO2.out, HB2.out⟩
      case round =>
        obtain ⟨t, rfl, ht32, hownt, hbt⟩ := hrel
        by_cases htlt : t < 32
        · have htI : (t : Int) < 32 := by omega
          have htI0 : (0 : Int) ≤ (t : Int) := by omega
          by_cases hmt : m ≤ 32 * i + t
          · have hmI : (m : Int) ≤ 32 * (i : Int) + (t : Int) := by omega
            have hzs := zst_set HB32.out htlt hmt
            obtain ⟨x, hx⟩ : ∃ x, (zst m i b t)[t]? = some x := ⟨_, List.getElem?_eq_getElem (by rw [length_zst HB32.out ht32]; exact htlt)⟩
            have hcell := hownt.cell t x hx
            have hfr := World.ownsRow.frozenAt hownt.1 t
            have hst := hownt.stored t 0
            rw [hzs] at hst
            have HST := Lib.hid hst
            have HBT := Lib.hid (hbt.setCell (p := ⟨g2, t, none⟩) hownt.ge (.int .u8 (0 : UInt8).toNat))
            clear hzs hx hst hownt hbt hmt
            go_wp2_with fail
            go_roundw
            case rel => exact ⟨t + 1, by go_num, by omega, HST.out, HBT.out⟩
            case measure => simp [intOf]; omega
          · have hmI : ¬ (m : Int) ≤ 32 * (i : Int) + (t : Int) := by omega
            have hzs := zst_same HB32.out htlt (by omega : 32 * i + t < m)
            rw [hzs] at hownt
            have HOT := Lib.hid hownt
            have HBT := Lib.hid hbt
            clear hzs hownt hbt hmt
            go_wp2_with fail
            go_roundw
            case rel => exact ⟨t + 1, by go_num, by omega, HOT.out, HBT.out⟩
            case measure => simp [intOf]; omega
        · have ht2 : t = 32 := by omega
          have hownz : Own wr w6.heap.size g2 32 c2' (zb m i b) := by rw [← zst_all HB32.out, ← ht2]; exact ht2 ▸ hownt
          obtain ⟨T, hTI, hT⟩ := conv_text
          have q2 := hT (zb m i b) wr _ c2' hownz.bytes
          have hbw : BytesAt wr A b := BytesAt.below (w := w6) (fun i x h => HBA.out i x h) hbt
          have q3 := hT b wr A cap hbw
          rw [length_zb HB32.out] at q2
          rw [HB32.out] at q3
          have HRw := Lib.hid (HRR.out.below hbt)
          have HTw := Lib.hid (HT.out.trans (Turned.of_below (S := fun _ => False) hbt) (fun _ _ h => h.elim))
          have HOz := Lib.hid hownz
          have HBt := Lib.hid hbt
          have ez : zto (con F cs) f k m (j + 1) = zto (con F cs) f k m j ++ (if zb m i b = b then [] else [⟨false, ((f + i : Nat) : Int), zb m i b⟩]) := by
            have e1 := EI.out
            have e2 := EB.out
            rw [← Int.natCast_add] at e2
            rw [e2, e1]
            rfl
          by_cases hzb : zb m i b = b
          · rw [if_pos hzb, List.append_nil] at ez
            rw [hzb] at q2
            have s1 : ((T b).toList == (T b).toList) = true := by simp
            have EZ := Lib.hid ez
            clear ez hownz hbt hownt hbw hTI hT ht2 hzb
            go_wp2_with fail
            have HW6 := Lib.hid HBt.out.size
            exact ⟨⟨j + 1, congrArg (Value.int .i64) (by have := EI2.out; omega), by omega, ⟨_, rfl, Lib.hid (by rw [EZ.out]; exact HBB.out)⟩, by
              rw [EZ.out]
              exact HRw.out.wide (fun x hx => hx.imp id (fun hx => ⟨hx.1, Nat.lt_of_lt_of_le hx.2 HW6.out⟩)) (fun x hx => hx.elim (fun hx => Nat.lt_of_lt_of_le (HR.out.zlt x hx) HTw.out.size) (fun hx => hx.2)), HTw.out⟩, by simp [intOf]⟩
          · rw [if_neg hzb] at ez
            have s1 : ((T (zb m i b)).toList == (T b).toList) = false := by
              have : (T (zb m i b)).toList ≠ (T b).toList := fun e => hzb (by rw [ByteArray.toList_eq, ByteArray.toList_eq, hTI, hTI] at e; exact e)
              simpa using this
            have EZ := Lib.hid ez
            have hbr2 := Below.obj HBt.out HBR.out (lt_of_some HBR.out)
            have p0 : wr.cell? ⟨pj, 0, none⟩ = some (.pointer (some ⟨q, 0, none⟩)) := cell_of_row _ _ 0 _ _ _ hbr2
            have p1 : wr.cell? ⟨pj, 1, none⟩ = some (.int .i64 (f : Int)) := cell_of_row _ _ 1 _ _ _ hbr2
            have hlz := length_zb (n := m) (i := i) HB32.out
            have hwr := rk_write HRw.out.drew HLEN.out hn ((f : Int) + (i : Int)) (zb m i b) (some ⟨g2, 0, none⟩) c2' 32 hlz.symm (fun x y hx => HOz.out.bytes x y hx) (fun _ g o e hz => by
              injection e with e
              have e1 := (Addr.mk.inj e).1
              have h1 := HOz.out.ge
              have h2 := HRR.out.zlt g hz
              omega)
            have hg : wGood n ((f : Int) + (i : Int)) (zb m i b) := ⟨by omega, by have := EI.out; omega, hlz⟩
            have hcode : wCode n ((f : Int) + (i : Int)) (zb m i b) = 0 := by
              unfold wCode
              rw [if_pos ⟨hg.1, hg.2.1⟩, if_pos hlz]
            have hcs : wCs n (cs ++ zto (con F cs) f k m j) ((f : Int) + (i : Int)) (zb m i b) = cs ++ zto (con F cs) f k m (j + 1) := by
              unfold wCs
              rw [if_pos hg, ez, List.append_assoc, Int.natCast_add]
            rw [hcode, hcs] at hwr
            have hout : ¬ grow Z w w6 pj := fun h => h.elim HPJ.out (fun h => by have := lt_of_some HBX.out; omega)
            have HWR := Lib.hid (hwr.mono fun e w7 (h : RkIs _ _ _ _ _ _ _ e w7) => (⟨h, h.2.2.cell (a := wr.drew) p0 hout, h.2.2.cell (a := wr.drew) p1 hout⟩ : RkIs (grow Z w w6) q n F (cs ++ zto (con F cs) f k m (j + 1)) wr.drew 0 e w7 ∧ w7.cell? ⟨pj, 0, none⟩ = some (.pointer (some ⟨q, 0, none⟩)) ∧ w7.cell? ⟨pj, 1, none⟩ = some (.int .i64 (f : Int))))
            have q1 : IntKind.i64.wrap ((f : Int) + (i : Int)) = (f : Int) + (i : Int) := IntWalk.i64_in _ (by omega)
            have hne : zto (con F cs) f k m (j + 1) ≠ [] := by rw [ez]; simp
            have HNE := Lib.hid hne
            clear ez hownz hbt hownt hbw hTI hT ht2 hzb hwr hcode hcs hg hlz hbr2 hne hout
            go_wp2_with fail
            go_region_held3 (fun x => x.cell? ⟨pj, 0, none⟩ = some (.pointer (some ⟨q, 0, none⟩)) ∧ x.cell? ⟨pj, 1, none⟩ = some (.int .i64 (f : Int)))
              ((go_split_ands; refine ⟨?_, ?_⟩ <;> first | assumption | exact p0 | exact p1))
              ((go_at_call 17; (with_reducible refine HWR.out.mono ?_); rintro e w7 ⟨⟨rfl, hr7, ht7⟩, d0, d1⟩))
            have hr7' : Rk w7 (grow Z w w7) q n F (cs ++ zto (con F cs) f k m (j + 1)) := hr7.wide (fun x hx => by
              rcases hx with (hx | hx) | hx
              · exact .inl hx
              · exact .inr ⟨hx.1, Nat.lt_of_lt_of_le hx.2 (Nat.le_trans HBt.out.size ht7.size)⟩
              · exact .inr ⟨Nat.le_trans HTw.out.size hx.1, hx.2⟩) (fun x hx => hx.elim (fun hx => Nat.lt_of_lt_of_le (HR.out.zlt x hx) (Nat.le_trans HTw.out.size ht7.size)) (fun hx => hx.2))
            have ht7' : Turned Z w w7 := HTw.out.drew.trans ht7 (fun x hx hz => hz.elim id (fun h => absurd hx (by omega)))
            have HR7 := Lib.hid hr7'
            have HT7 := Lib.hid ht7'
            clear hr7 ht7 hr7' ht7' q1
            go_wp2_with fail
            exact ⟨⟨j + 1, congrArg (Value.int .i64) (by have := EI2.out; omega), by omega, ⟨_, rfl, Lib.hid (by simpa using HNE.out)⟩, HR7.out, HT7.out⟩, by simp [intOf]⟩
    · have hjk2 : j = k := by omega
      have hI : (k : Int) - 1 - (j : Int) = -1 := by omega
      rw [hI]
      have HRr := Lib.hid hr
      have HTr := Lib.hid ht
      clear hr ht hI
      go_wp2_with fail
      go_ret
      exact ⟨by rw [HBB.out, hjk2]; rfl, hjk2 ▸ HRr.out, HTr.out⟩
end Go.Proofs.Ytpfdlcogldbocaa
