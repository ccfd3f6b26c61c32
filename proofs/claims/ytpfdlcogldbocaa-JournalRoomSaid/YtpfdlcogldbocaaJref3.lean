/-
  The document's answer's journal in memory: how many bytes are used, and left. Condition: it lies in memory so.
-/
import Derived.Test.YtpfdlcogldbocaaJref2
import Derived.Test.YtpfdlcogldbocaaScan
import Derived.BigQuiet
import Derived.Deep.QuietTactic
namespace Go.Proofs.Ytpfdlcogldbocaa
open Go.RowKit Go.Deep Go.Maps

/-- The document's answer's journal at pj, in the blocks Y: on the disk at q, from block f on k blocks, of the records ls. -/
def RefJ (w : World) (Y : Nat → Prop) (pj q f k : Nat) (ls : List (List UInt8)) : Prop :=
  ∃ A c, w.heap[pj]? = some (.cells #[.pointer (some ⟨q, 0, none⟩), .int .i64 (f : Int), .int .i64 (k : Int), .slice A ls.length c] 56 (0, 0)) ∧ RowsIn w (fun j => Y j ∧ j ≠ pj) A ls ∧ Y pj ∧ ∀ j, Y j → j < w.heap.size

theorem RowsIn.turned {w w' : World} {Y T : Nat → Prop} {A : Option Addr} {ls : List (List UInt8)} (h : RowsIn w Y A ls) (ht : Turned T w w') (hT : ∀ j, Y j → ¬ T j) : RowsIn w' Y A ls := fun i l hi => by
  obtain ⟨g, o, B, c, e, hg, hc, hB⟩ := h i l hi
  refine ⟨g, o, B, c, e, hg, ht.cell hc (hT g hg), fun j b hj => ?_⟩
  obtain ⟨h, p, e2, hh, hc2⟩ := hB j b hj
  exact ⟨h, p, e2, hh, ht.cell hc2 (hT h hh)⟩
section
variable {w : World} {Y : Nat → Prop} {pj q f k : Nat} {ls : List (List UInt8)}
theorem RefJ.turned (h : RefJ w Y pj q f k ls) {w' : World} {T : Nat → Prop} (ht : Turned T w w') (hT : ∀ j, Y j → ¬ T j) : RefJ w' Y pj q f k ls := by
  obtain ⟨A, c, h1, h2, h3, h4⟩ := h
  exact ⟨A, c, ht.obj h1 (hT pj h3), h2.turned ht (fun j hj => hT j hj.1), h3, fun j hj => Nat.lt_of_lt_of_le (h4 j hj) ht.size⟩
theorem RefJ.below (h : RefJ w Y pj q f k ls) {w' : World} (hb : Below w.heap.size w w') : RefJ w' Y pj q f k ls := h.turned (Turned.of_below (S := fun _ => False) hb) (fun _ _ h => h)
theorem RefJ.ylt (h : RefJ w Y pj q f k ls) : ∀ j, Y j → j < w.heap.size := by
  obtain ⟨_, _, _, _, _, h⟩ := h
  exact h
end

theorem frames_len_take (ls : List (List UInt8)) (j : Nat) (l : List UInt8) (h : ls[j]? = some l) : (frames (ls.take (j + 1))).length = (frames (ls.take j)).length + 7 + l.length := by
  rw [frames_take_succ ls j l h, List.length_append, length_frame]
  omega

set_option maxRecDepth 100000 in
set_option maxHeartbeats 2000000 in
theorem jref_used {w : World} {Y : Nat → Prop} {pj q f k : Nat} {ls : List (List UInt8)} (h : RefJ w Y pj q f k ls) (hl : (frames ls).length ≤ 1099511627776) :
    Calls Try.prog 44 #[.pointer (some ⟨pj, 0, none⟩)] w fun e w' => e = .returned (.int .i64 ((frames ls).length : Int)) ∧ w = w' := by
  obtain ⟨A, c, hbox, hrow, _, _⟩ := h
  have c3 : w.cell? ⟨pj, 3, none⟩ = some (.slice A ls.length c) := cell_of_row _ _ 3 _ _ _ hbox
  have HROW := Lib.hid hrow
  have hll := length_frames ls
  obtain ⟨n, en⟩ : ∃ n, n = ls.length := ⟨_, rfl⟩
  have EN := Lib.hid en
  rw [← en] at c3 hll
  have hn40 : n ≤ 1099511627776 := by omega
  have HL := Lib.hid hl
  clear hbox hrow en hl hll
  go_enter Try.func44, Try.ntmps44
  go_wp2_with fail
  go_loop [3, 4] (fun s i => ∃ j u : Nat, i = .int .i64 (j : Int) ∧ j ≤ n ∧ s = .int .i64 (u : Int) ∧ Hid (u = (frames (ls.take j)).length)) (fun _ i => n - (intOf i).toNat)
  case atStart => exact ⟨0, 0, rfl, Nat.zero_le _, rfl, Lib.hid (by simp [frames])⟩
  case round =>
    obtain ⟨j, u, rfl, hj, rfl, HU⟩ := hrel
    by_cases hjn : j < n
    · obtain ⟨l, hl⟩ : ∃ l, ls[j]? = some l := ⟨ls[j]'(by have := EN.out; omega), List.getElem?_eq_getElem _⟩
      obtain ⟨g, o, B, c', rfl, _, hc, _⟩ := HROW.out j l hl
      have hnx := frames_len_take ls j l hl
      have hle := frames_take_le ls (j + 1)
      have hub := HU.out
      have hlim := HL.out
      obtain ⟨x, ex⟩ : ∃ x, x = l.length := ⟨_, rfl⟩
      rw [← ex] at hc hnx
      have HNX : Hid (u + 7 + x = (frames (ls.take (j + 1))).length) := Lib.hid (by omega)
      have hs : (u : Int) + 7 + (x : Int) ≤ 1099511627776 := by omega
      clear hl hnx hle hub hlim ex
      go_wp2_with fail
      go_round
      case rel => exact ⟨j + 1, u + 7 + x, by go_num, by omega, congrArg (Value.int .i64) (by omega), HNX⟩
      case measure => simp [intOf]; omega
    · have hjn2 : j = ls.length := by have := EN.out; omega
      have hu : u = (frames ls).length := by
        have := HU.out
        rwa [hjn2, List.take_length] at this
      have HU2 := Lib.hid hu
      clear hu hjn2
      go_wp2_with fail
      go_ret
      exact ⟨by rw [← HU2.out]; rfl, rfl⟩

theorem RefJ.drewN {w : World} {Y : Nat → Prop} {pj q f k : Nat} {ls : List (List UInt8)} (h : RefJ w Y pj q f k ls) (N : Nat) : RefJ (w.drewN N) Y pj q f k ls := h.below (below_drewN _ _ _)

def RoomAns (x : Int) (w : World) (e : Ending) (w' : World) : Prop := e = .returned (.int .i64 x) ∧ ∃ N, w' = w.drewN N
set_option maxRecDepth 100000 in
set_option maxHeartbeats 1000000 in
theorem jref_room {w : World} {Y : Nat → Prop} {pj q f k : Nat} {ls : List (List UInt8)} (h : RefJ w Y pj q f k ls) (hl : (frames ls).length ≤ 32 * k) (hk : k ≤ 65536) :
    Calls Try.prog 26 #[.pointer (some ⟨pj, 0, none⟩)] w (RoomAns (32 * (k : Int) - ((frames ls).length : Int)) w) := by
  have hU : ∀ N, Calls Try.prog 44 #[.pointer (some ⟨pj, 0, none⟩)] (w.drewN N) fun e w' => e = .returned (.int .i64 ((frames ls).length : Int)) ∧ w' = w.drewN N := fun N => (jref_used (h.drewN N) (by omega)).mono fun e w' ⟨a, b⟩ => ⟨a, b.symm⟩
  obtain ⟨A, c, hbox, _⟩ := h
  have c2 : w.cell? ⟨pj, 2, none⟩ = some (.int .i64 (k : Int)) := cell_of_row _ _ 2 _ _ _ hbox
  obtain ⟨u, eu⟩ : ∃ u, u = (frames ls).length := ⟨_, rfl⟩
  simp only [← eu] at hU
  rw [← eu] at hl ⊢
  have HU := Lib.hid hU
  have q1 : IntKind.i64.wrap (32 * (k : Int)) = 32 * (k : Int) := IntWalk.i64_in _ (by omega)
  have q2 : IntKind.i64.wrap (32 * (k : Int) - (u : Int)) = 32 * (k : Int) - (u : Int) := IntWalk.i64_in _ (by omega)
  clear hU hbox eu
  go_enter Try.func26, Try.ntmps26
  go_wp2_with fail
  go_quiet ((go_at_call 44; exact Calls.quiet_of_same (HU.out _)))
  go_wp2_with fail
  go_ret
  exact ⟨rfl, _, rfl⟩

/-! ### Open -/
theorem jref_build (q : Nat) (f k : Int) (w : World) : (Instr.build 56 #[(0, .pointer (some ⟨q, 0, none⟩)), (1, .int .i64 f), (2, .int .i64 k)]).run Try.prog w = .ok (.agg #[.pointer (some ⟨q, 0, none⟩), .int .i64 f, .int .i64 k, .slice none 0 0]) w := by kernel_rfl

/-- What Open makes of the disk's calls. -/
def openCs (C : Int → List UInt8) (cs : List CallM) (f k n : Nat) : List CallM := if zto C f k n k = [] then cs else cs ++ zto C f k n k ++ [syncM]
def OpenAns (Z : Nat → Prop) (q n f k : Nat) (F : Int → Option (List UInt8)) (cs : List CallM) (w : World) (e : Ending) (w' : World) : Prop :=
  ∃ pj Y Z' ls u, e = .returned (.tuple #[.pointer (some ⟨pj, 0, none⟩), .int .i64 0]) ∧ IsScan (reg (con F cs) f k) ls u ∧ RefJ w' Y pj q f k ls ∧ Rk w' Z' q n F (openCs (con F cs) cs f k u) ∧
    (∀ j, Y j → ¬ Z' j ∧ w.heap.size ≤ j) ∧ (∀ j, Z' j → Z j ∨ w.heap.size ≤ j) ∧ Turned Z w w'

set_option maxRecDepth 100000 in
set_option maxHeartbeats 4000000 in
theorem jref_open {w : World} {Z : Nat → Prop} {q n : Nat} {F : Int → Option (List UInt8)} {cs : List CallM} (h : Rk w Z q n F cs) (hF : Blocks32 F) (hok : ∀ c ∈ cs, c.ok) (hc : cs.length ≤ 1048576 - 65536) (hn : n ≤ 65536) (f k : Nat) (h1 : 1 ≤ k) (hfk : f + k ≤ n) :
    Calls Try.prog 11 #[.pointer (some ⟨q, 0, none⟩), .int .i64 (f : Int), .int .i64 (k : Int)] w (OpenAns Z q n f k F cs w) := by
  have HR := Lib.hid h
  have HF := Lib.hid hF
  have HOK := Lib.hid hok
  have HC := Lib.hid hc
  have c0 := h.cell0
  have kb := jref_build q f k
  have t1 : ¬ (k : Int) < 1 := by omega
  have t2 : ¬ (n : Int) ≤ (f : Int) := by omega
  have t3 : ¬ (n : Int) - (f : Int) < (k : Int) := by omega
  have t4 : decide (n ≤ f) = false := by simp; omega
  have HBY := Lib.hid fun o => jref_bytes (h.below ((Below.refl _ w).alloc (Nat.le_refl _) o)) hF hok (by omega) hn f k hfk
  have h32 := con_all32 hF hok
  have hlr := length_reg h32 f k
  obtain ⟨R, eR⟩ : ∃ R, R = reg (con F cs) f k := ⟨_, rfl⟩
  rw [← eR] at HBY hlr
  have ER := Lib.hid eR
  have HLR := Lib.hid hlr
  have d0 : decide ((f : Int) < 0) = false := by simp
  clear h hF hok hc h32 eR hlr
  go_enter Try.func11, Try.ntmps11
  go_wp2_with fail
  (with_reducible refine (HBY.out _).mono ?_)
  rintro e W2 ⟨v, rfl, hown2, hb2⟩
  obtain ⟨A2, c2, rfl, hbA2, hl2, hm2⟩ := hown2.bytes
  have hbw2 : Below w.heap.size w W2 := ((Below.refl _ w).alloc (Nat.le_refl _) _).trans (hb2.mono (by simp))
  have hbox2 := Below.obj hb2 (heap_alloc_new w _) (by simp)
  have hl32 := HLR.out
  have hsc := refScan_any A2 R c2 W2 hbA2 hl2 hm2 (by omega) (scan_count (by omega))
  have HSC := Lib.hid hsc
  have HB2 := Lib.hid hbw2
  have HX2 := Lib.hid hbox2
  clear hown2 hbA2 hl2 hm2 hbw2 hbox2 hsc hb2 hl32
  go_wp2_with fail
  go_at_call 38
  (with_reducible refine (HSC.out).mono ?_)
  rintro e W3 ⟨v3, ls, u, rfl, hs3, hli3, hb3⟩
  obtain ⟨A3, c3, rfl, hrow3⟩ := hli3.rowsIn
  have hbox3 := Below.obj hb3 HX2.out (lt_of_some HX2.out)
  have x3 : W3.cell? ⟨w.heap.size, 3, none⟩ = some (.slice none 0 0) := cell_of_row _ _ 3 _ _ _ hbox3
  have z3 : W3.frozen? ⟨w.heap.size, 3, none⟩ = false := frozen_of_row W3 w.heap.size 3 _ _ hbox3
  obtain ⟨W4, e4⟩ : ∃ W4, W4 = W3.setCell ⟨w.heap.size, 3, none⟩ (.slice A3 ls.length c3) := ⟨_, rfl⟩
  have hbox4 := heap_setCell_same W3 w.heap.size 3 _ _ (.slice A3 ls.length c3) hbox3
  rw [← e4] at hbox4
  have hbw3 : Below w.heap.size w W3 := HB2.out.trans (hb3.mono HB2.out.size)
  have hts : Turned (fun j => j = w.heap.size) W3 W4 := by rw [e4]; exact turned_setCell W3 w.heap.size 3 _
  have hlt2 := lt_of_some HX2.out
  have hrow4 : RowsIn W4 (fun j => W2.heap.size ≤ j ∧ j < W3.heap.size) A3 ls := hrow3.turned hts (fun j hj e => by omega)
  have hbw4 : Below w.heap.size w W4 := by rw [e4]; exact hbw3.setCell (p := ⟨w.heap.size, 3, none⟩) (Nat.le_refl _) _
  have hul : u ≤ 32 * k := by have := hs3.1; have := HLR.out; omega
  have hz := jref_zero (HR.out.below hbw4) HF.out HOK.out (by have := HC.out; omega) hn f k u w.heap.size _ hfk (by omega) hbox4 (fun hz => Nat.lt_irrefl _ (HR.out.zlt _ hz))
  have HZ := Lib.hid hz
  have HE4 := Lib.hid e4
  have HS3 := Lib.hid hs3
  have HX4 := Lib.hid hbox4
  have HRO4 := Lib.hid hrow4
  have HB4 := Lib.hid hbw4
  have HSZ : Hid (W2.heap.size ≤ W3.heap.size ∧ W3.heap.size ≤ W4.heap.size ∧ w.heap.size < W3.heap.size ∧ w.heap.size < W2.heap.size) := Lib.hid ⟨hb3.size, hts.size, by have := hb3.size; omega, hlt2⟩
  have hui : (u : Int) ≤ 2097152 := by omega
  clear hz e4 hs3 hli3 hb3 hbox3 hbox4 hrow3 hrow4 hbw3 hbw4 hts hlt2
  go_wp2_with fail
  rw [← HE4.out]
  go_at_call 40
  (with_reducible refine (HZ.out).mono ?_)
  rintro e W5 ⟨rfl, hr5, ht5⟩
  have hj5 : RefJ W5 (fun j => j = w.heap.size ∨ W2.heap.size ≤ j ∧ j < W3.heap.size) w.heap.size q f k ls := by
    have hj4 : RefJ W4 (fun j => j = w.heap.size ∨ W2.heap.size ≤ j ∧ j < W3.heap.size) w.heap.size q f k ls := ⟨A3, c3, HX4.out, HRO4.out.more (fun j hj => ⟨.inr hj, by have := HSZ.out; omega⟩), .inl rfl, fun j hj => by have := HSZ.out; omega⟩
    refine hj4.turned ht5 (fun j hj hz => ?_)
    have h1 := HR.out.zlt j hz
    have := HSZ.out
    omega
  have htw5 : Turned Z w W5 := (Turned.of_below (S := Z) HB4.out).trans ht5 (fun x hx hz => hz)
  have HR5 := Lib.hid hr5
  have HT5 := Lib.hid htw5
  have HJ5 := Lib.hid hj5
  by_cases hzz : zto (con F cs) f k u k = []
  · have hop : openCs (con F cs) cs f k u = cs := by unfold openCs; rw [if_pos hzz]
    have hd : decide (zto (con F cs) f k u k ≠ []) = false := by simp [hzz]
    rw [hd]
    have HOP : Hid (cs ++ zto (con F cs) f k u k = openCs (con F cs) cs f k u) := Lib.hid (by rw [hop, hzz, List.append_nil])
    clear hzz hop hd hr5 ht5 hj5 htw5
    go_wp2_with fail
    go_ret2
    exact ⟨w.heap.size, _, grow Z W4 W5, ls, u, rfl, by rw [← ER.out]; exact HS3.out, HJ5.out, by rw [← HOP.out]; exact HR5.out, fun j hj => ⟨fun h => by
      have := HSZ.out
      rcases h with h | h
      · have := HR.out.zlt j h
        omega
      · omega, by have := HSZ.out; omega⟩, fun j h => h.imp id (fun h => by have := HSZ.out; omega), HT5.out⟩
  · have hop : openCs (con F cs) cs f k u = cs ++ zto (con F cs) f k u k ++ [syncM] := by unfold openCs; rw [if_neg hzz]
    have hd : decide (zto (con F cs) f k u k ≠ []) = true := by simp [hzz]
    rw [hd]
    have HOP := Lib.hid hop
    have HSY := Lib.hid (rk_sync hr5 (by
      have h1 := zto_len (con F cs) f k u k
      have h2 := HC.out
      rw [List.length_append]; omega))
    clear hzz hop hd hr5 ht5 hj5 htw5
    go_wp2_with fail
    go_at_call 15
    (with_reducible refine (HSY.out).mono ?_)
    rintro e W6 ⟨rfl, hr6, ht6⟩
    have hj6 := HJ5.out.turned ht6 (fun j hj h => by
      have := HSZ.out
      rcases h with h | h
      · have := HR.out.zlt j h
        omega
      · omega)
    have ht6w : Turned Z w W6 := HT5.out.trans ht6 (fun x hx h => h.elim id (fun h => by have := HSZ.out; omega))
    have HR6 := Lib.hid hr6
    have HJ6 := Lib.hid hj6
    have HT6 := Lib.hid ht6w
    have HSZ5 := Lib.hid ht6.size
    have HSZ4 := Lib.hid HT5.out.size
    clear hr6 ht6 hj6 ht6w
    go_wp2_with fail
    go_ret2
    exact ⟨w.heap.size, _, grow (grow Z W4 W5) W5 W6, ls, u, rfl, by rw [← ER.out]; exact HS3.out, HJ6.out, by rw [HOP.out]; exact HR6.out, fun j hj => ⟨fun h => by
      have := HSZ.out
      have hj' := HJ5.out.ylt j hj
      rcases h with (h | h) | h
      · have := HR.out.zlt j h
        omega
      · omega
      · omega, by have := HSZ.out; omega⟩, fun j h => by
      have := HSZ.out
      have := HSZ4.out
      rcases h with (h | h) | h
      · exact .inl h
      · exact .inr (by omega)
      · exact .inr (by omega), HT6.out⟩
end Go.Proofs.Ytpfdlcogldbocaa
