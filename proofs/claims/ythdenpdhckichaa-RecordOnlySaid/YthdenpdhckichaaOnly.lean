/-
  The walk of RecordOnly: it returns true and touches nothing that was there. Condition: the bytes lie in memory.
-/
import Derived.Test.YthdenpdhckichaaTakes
namespace Go.Proofs.Ythdenpdhckichaa
open Go.RowKit Go.Deep

/-- A row of bytes of the call's own, or none as yet. -/
def OwnV (w : World) (base : Nat) (v : Value) (l : List UInt8) : Prop := w.ownsRow base 5 1 v l.length (bytesV l)
theorem OwnV.nil (w : World) (base : Nat) : OwnV w base (.slice none 0 0) [] := World.ownsRow_nil _ _ _ _
theorem OwnV.below {w w' : World} {base : Nat} {v : Value} {l : List UInt8} (h : OwnV w base v l) (hb : Below w.heap.size w w') : OwnV w' base v l := ownsRow_below h hb (Nat.le_refl _)
theorem OwnV.bytes {w : World} {base : Nat} {v : Value} {l : List UInt8} (h : OwnV w base v l) : ∃ A c, v = .slice A l.length c ∧ BytesAt w A l ∧ l.length ≤ c ∧ c ≤ maxLen := by
  have h' := h
  rcases h.2 with ⟨e, hn⟩ | ⟨g, cap, cur, e, _, _, hle, hm, _⟩
  · have hl : l = [] := List.eq_nil_of_length_eq_zero hn
    subst hl
    exact ⟨none, 0, e, BytesAt.none _ _, Nat.le_refl _, by unfold maxLen; omega⟩
  · subst e
    exact ⟨_, cap, rfl, Own.bytes ⟨h', rfl⟩, hle, hm⟩

theorem wpList_append_ownv {ops : Array Oper} {rest : List Oper} {a : Act} {Q : Exit → Act → World → Prop} {s x : Operand} {ps : String} {af : Array Edge} {w : World} {base k cap : Nat} {v : Value} {ys l : List UInt8} {A : Option Addr} (d : Tmp) (hown : OwnV w base v ys) (hb : BytesAt w A l) (hk : k = l.length) (h0 : 0 < l.length)
    (hs : a.eval s = v) (hx : a.eval x = .slice A k cap) (hn : ys.length + l.length ≤ 1099511627776) (hbase : base ≤ w.heap.size)
    (h : ∀ v' w', OwnV w' base v' (ys ++ l) → w.grownBy w' v.ownBlock → (∀ b, v.ownBlock = some b → base ≤ b) → wpList Try.prog ops Q rest (a.put (some d) v') w') :
    wpList Try.prog ops Q ({ dst := some d, op := .call { callee := .builtin .append, args := #[s, x], argTypes := #[22, 22] }, type := 22, pos := ps, after := af, guard := none } :: rest) a w := by
  subst hk
  obtain ⟨i, hi, hz, hsz, hby⟩ := info_parts info_u8
  have hlt : ∀ b, v.ownBlock = some b → base ≤ b := fun b hb => (World.ownsRow.lt hown b hb).1
  obtain ⟨ga, oa, rfl⟩ := hb.some h0
  obtain ⟨gg, cc, w', hap, hown', hgrow, hat, _⟩ := run_append_lies (P := Try.prog) w 22 22 base 5 i _ 1 1 Try.underlying22 hi hz hsz hby (by rfl) (by omega) v ys.length (bytesV ys) hown ⟨ga, oa, none⟩ l.length cap (bytesV l) (by rw [length_bytesV, Nat.mul_one])
      (fun j u hu => by
        have hj := (List.getElem?_eq_some_iff.1 hu).1
        rw [length_bytesV] at hj
        obtain ⟨g2, o2, e2, hc⟩ := hb j _ (List.getElem?_eq_getElem hj)
        cases e2
        rw [Addr.add_mid, hc]
        simp only [bytesV, List.getElem?_map, List.getElem?_eq_getElem hj, Option.map_some] at hu
        exact hu) oneCell_bytesV h0 (by unfold maxLen; omega) (by omega) hbase _ rfl
  refine wpList_append_to d hap hs hx (h _ w' ?_ hgrow hlt)
  unfold OwnV
  rw [List.length_append, bytesV_append]
  exact hown'

theorem frames_split (ls : List (List UInt8)) (j : Nat) : frames ls = frames (ls.take j) ++ frames (ls.drop j) := by
  unfold frames
  rw [← List.flatten_append, ← List.map_append, List.take_append_drop]
theorem frames_take_le (ls : List (List UInt8)) (j : Nat) : (frames (ls.take j)).length ≤ (frames ls).length := by
  rw [frames_split ls j, List.length_append]; omega
theorem frames_take_succ (ls : List (List UInt8)) (j : Nat) (l : List UInt8) (h : ls[j]? = some l) : frames (ls.take (j + 1)) = frames (ls.take j) ++ frame l := by
  rw [List.take_add_one, h]
  exact frames_snoc _ _

set_option maxRecDepth 100000 in
set_option maxHeartbeats 2000000 in
theorem only_in (A : Option Addr) (b : List UInt8) (cap : Nat) (w : World) (hA : BytesAt w A b) (hl : b.length ≤ cap) (hm : cap ≤ maxLen) (la : b.length ≤ 9000) :
    Calls Try.prog 6 #[.slice A b.length cap] w fun e w' => e = .returned (.bool true) ∧ Below w.heap.size w w' := by
  have hsc := (scan_any A b cap w hA hl hm (by omega) (scan_count (by omega))).mono fun e w' h => scanAny_of h
  have HA := Lib.hid hA
  have HL := Lib.hid hl
  have HM := Lib.hid hm
  obtain ⟨n, en⟩ : ∃ n, n = b.length := ⟨_, rfl⟩
  have EN := Lib.hid en
  rw [← en] at la hsc ⊢
  have HSC := Lib.hid hsc
  have hd9 : decide ((9000 : Int) < (n : Int)) = false := by simp; omega
  clear hA en hl hm hsc
  go_enter Try.func6, Try.ntmps6
  go_wp2_with fail
  go_at_call 15
  (with_reducible refine (HSC.out).mono ?_)
  rintro e W3 ⟨A3, k3, c3, ls, m, rfl, hk3, hs3, hr3, hb3⟩
  have hmn : m ≤ n := by rw [EN.out]; exact hs3.1
  have hfl : (frames ls).length = m := by rw [← hs3.2.1, List.length_take]; have := EN.out; omega
  have hk9 : k3 ≤ 9000 := by have := length_frames ls; omega
  have hm0 : (0 : Int) ≤ (m : Int) := by omega
  have hm1 : (m : Int) ≤ (n : Int) := by omega
  have hd0 : decide ((m : Int) < 0) = false := by simp
  have hd1 : decide (n < m) = false := by simp; omega
  have HK3 := Lib.hid hk3
  have HS3 := Lib.hid hs3
  have HR3 := Lib.hid hr3
  have HB3 := Lib.hid hb3
  have HFL := Lib.hid hfl
  clear hk3 hs3 hr3 hb3 hfl
  go_wp2_with fail
  go_loopw [5, 6] (fun v i wr => ∃ j : Nat, i = .int .i64 (j : Int) ∧ j ≤ k3 ∧ OwnV wr W3.heap.size v (frames (ls.take j)) ∧ Below W3.heap.size W3 wr) (fun _ i _ => k3 - (intOf i).toNat)
  case atStart => exact ⟨0, rfl, Nat.zero_le _, by simpa [frames] using OwnV.nil W3 W3.heap.size, Below.refl _ _⟩
  case round =>
    obtain ⟨j, rfl, hj, hown, hb⟩ := hrel
    have HO := Lib.hid hown
    have HB := Lib.hid hb
    clear hown hb
    by_cases hjk : j < k3
    · obtain ⟨l, hl⟩ : ∃ l, ls[j]? = some l := ⟨ls[j]'(by have := HK3.out; omega), List.getElem?_eq_getElem _⟩
      have hok : RecOk l := HS3.out.2.2.1 l (List.mem_of_getElem? hl)
      have hnx := frames_take_succ ls j l hl
      obtain ⟨g1, o1, B1, d1, rfl, hc1, hb1⟩ := (HR3.out.below HB.out) j l hl
      have hw := wrap_ok B1 l d1 wr hb1 hok
      obtain ⟨q, eq⟩ : ∃ q, q = l.length := ⟨_, rfl⟩
      rw [← eq] at hw hc1
      have hbd : (frames (ls.take j)).length + (frame l).length ≤ 1099511627776 := by
        have h1 := frames_take_le ls (j + 1)
        rw [hnx, List.length_append] at h1
        have := HFL.out
        omega
      have HW := Lib.hid hw
      have HNX := Lib.hid hnx
      have HBD := Lib.hid hbd
      have H0 : Hid (0 < (frame l).length) := Lib.hid (by rw [length_frame]; omega)
      clear hw hnx hbd hl hok hb1 eq
      go_wp2_with fail
      go_at_call 10
      (with_reducible refine (HW.out).mono ?_)
      rintro e W4 ⟨v, rfl, g4, n4, c4, rfl, hn4, hown4, hb4⟩
      have HO4 := Lib.hid (HO.out.below hb4)
      have HB4 := Lib.hid (HB.out.trans (hb4.mono HB.out.size))
      have HN4 := Lib.hid hn4
      have HF4 := Lib.hid hown4.bytes
      clear hn4 hown4 hb4
      go_wp2_with ((refine wpList_append_ownv 48 HO4.out HF4.out HN4.out H0.out rfl rfl HBD.out HB4.out.size ?_))
      intro v5 W5 hown5 hgr5 hge5
      have hb5 : Below W3.heap.size W3 W5 := HB4.out.grown hgr5 HB4.out.size hge5
      rw [← HNX.out] at hown5
      have HO5 := Lib.hid hown5
      have HB5 := Lib.hid hb5
      clear hown5 hgr5 hge5 hb5
      go_wp2_with fail
      go_roundw
      case rel => exact ⟨j + 1, by go_num, by omega, HO5.out, HB5.out⟩
      case measure => simp [intOf]; omega
    · have hj3 : j = ls.length := by have := HK3.out; omega
      have hown := HO.out
      rw [hj3, List.take_length] at hown
      obtain ⟨A5, c5, rfl, hb5, _, _⟩ := hown.bytes
      rw [HFL.out] at hown
      have hbw : Below w.heap.size w wr := HB3.out.trans (HB.out.mono HB3.out.size)
      have hsl : ∀ W, (Instr.sliceAt 22 (.slice A n cap) none (some (.int .i64 (m : Int))) none).run Try.prog W = .ok (.slice A m cap) W := fun W => u8_slice_to (by have := HL.out; have := EN.out; omega) HM.out
      have hsame := same_any A5 A (frames ls) c5 cap m wr hb5 (by rw [← HS3.out.2.1]; exact (HA.out.below hbw).take m) HFL.out.symm
      obtain ⟨A', hsr, hA'⟩ := rest_slice (HA.out.below hbw) HS3.out.1 HL.out HM.out
      have hld : (b.drop m).length = n - m := by rw [List.length_drop, EN.out]
      rw [← EN.out, hld] at hsr
      have htk := take_no A' (b.drop m) (cap - m) wr hA' (by rw [hld]; have := HL.out; have := EN.out; omega) (by have := HM.out; omega) HS3.out.2.2.2
      unfold TakeNone at htk
      rw [hld] at htk
      have ht := HS3.out.2.2.2
      obtain ⟨t, et⟩ : ∃ t, t = takeE (b.drop m) := ⟨_, rfl⟩
      rw [← et] at htk ht
      have t0 : ((t : Int) != 0) = true := by simp; omega
      rw [HFL.out] at HO ⊢
      have HSM := Lib.hid hsame
      have HTK := Lib.hid htk
      have HBW := Lib.hid hbw
      clear hown hb5 hbw hsame htk ht et hld hA' hj3 HO
      go_wp2_with fail
      go_at_call 12
      (with_reducible refine (HSM.out).mono ?_)
      rintro e w' ⟨rfl, rfl⟩
      go_wp2_with fail
      go_at_call 13
      (with_reducible refine (HTK.out).mono ?_)
      rintro e W6 ⟨rfl, hb6⟩
      have HB6 := Lib.hid (HBW.out.trans (hb6.mono HBW.out.size))
      clear hb6 hsl hsr
      go_wp2_with fail
      go_at_call 9
      (with_reducible refine (alive_any _).mono ?_)
      rintro e W7 ⟨rfl, hb7⟩
      have HB7 := Lib.hid (HB6.out.trans (hb7.mono HB6.out.size))
      clear hb7
      go_wp2_with fail
      go_ret
      exact ⟨rfl, HB7.out⟩

set_option maxHeartbeats 400000 in
theorem only_out (A : Option Addr) (l : List UInt8) (cap : Nat) (w : World) (hl : l.length ≤ maxLen) (h : 9000 < l.length) :
    Calls Try.prog 6 #[.slice A l.length cap] w fun e w' => e = .returned (.bool true) ∧ Below w.heap.size w w' := by
  unfold maxLen at hl
  go_enter Try.func6, Try.ntmps6
  go_wp2_with (go_at_call 9; (with_reducible refine (alive_any _).mono ?_); rintro e w' ⟨rfl, hb2⟩)
  go_ret
  exact ⟨rfl, hb2⟩

theorem only_any (A : Option Addr) (l : List UInt8) (cap : Nat) (w : World) (hA : BytesAt w A l) (hl : l.length ≤ cap) (hm : cap ≤ maxLen) :
    Calls Try.prog 6 #[.slice A l.length cap] w fun e w' => e = .returned (.bool true) ∧ Below w.heap.size w w' := by
  by_cases h : 9000 < l.length
  · exact only_out A l cap w (by omega) h
  · exact only_in A l cap w hA hl hm (by omega)
end Go.Proofs.Ythdenpdhckichaa
