/-
  What reduced and synced of package disk return. Conditions: the numbers are int's; the calls lie in memory as CallsAt says.
  What copied of package disk returns: a new map that holds the same blocks. Condition: the map lies in memory as MapIs says, its blocks have 32 bytes.
-/
import Derived.Test.YtpfdlcogldbocaaWrite3
namespace Go.Proofs.Ytpfdlcogldbocaa
open Go.RowKit Go.Maps

def red (n : Int) (m : Nat) : Nat := (if n < 0 then -(n + 1) else n).toNat % m
theorem red_lt (n : Int) (m : Nat) (h : 0 < m) : red n m < m := Nat.mod_lt _ h

theorem i64_bounds {n : Int} (hn : (Lit.int .i64 n).wf = true) : -9223372036854775808 ≤ n ∧ n ≤ 9223372036854775807 := by
  have h : IntKind.i64.min ≤ n ∧ n ≤ IntKind.i64.max := by simpa [Lit.wf] using hn
  exact h

theorem reduced_any (n : Int) (m : Nat) (w : World) (hn : (Lit.int .i64 n).wf = true) (hm : 0 < m) (hm2 : m ≤ 1099511627776) :
    Calls Try.prog 47 #[.int .i64 n, .int .i64 (m : Int)] w fun e w' => e = .returned (.int .i64 (red n m : Int)) ∧ w = w' := by
  obtain ⟨b1, b2⟩ := i64_bounds hn
  have hm0 : (0 : Int) < (m : Int) := by omega
  have hmz : ((m : Int) == 0) = false := by simp; omega
  by_cases h : n < 0
  · have e : (red n m : Int) = -((n + 1).tmod m) := by
      unfold red
      rw [if_pos h, Int.natCast_emod, Int.toNat_of_nonneg (by omega), ← Int.neg_tmod, Int.tmod_eq_emod_of_nonneg (by omega)]
    have E := Lib.hid e
    clear e
    go_enter Try.func47, Try.ntmps47
    go_wp2
    go_ret
    refine ⟨?_, rfl⟩
    rw [E.out]
    rfl
  · have e : (red n m : Int) = n % m := by
      unfold red
      rw [if_neg h, Int.natCast_emod, Int.toNat_of_nonneg (by omega)]
    have h' : 0 ≤ n := by omega
    have E := Lib.hid e
    clear e h
    go_enter Try.func47, Try.ntmps47
    go_wp2
    go_ret
    refine ⟨?_, rfl⟩
    rw [E.out]
    rfl

/-! ### synced -/
/-- The calls cs lie one behind the other from A on. -/
def CallsAt (w : World) (A : Option Addr) (cs : List CallM) : Prop :=
  ∀ i c, cs[i]? = some c → ∃ g o, A = some ⟨g, o, none⟩ ∧ w.rangeAt g (o + i * 34) c.cells

/-- k calls are up to the last Sync. -/
def SyncAt (cs : List CallM) (k : Nat) : Prop := k ≤ cs.length ∧ (∀ j c, k ≤ j → cs[j]? = some c → c.sync = false) ∧ (0 < k → ∃ c, cs[k - 1]? = some c ∧ c.sync = true)
def SyncedIs (w : World) (cs : List CallM) (e : Ending) (w' : World) : Prop := ∃ k : Nat, e = .returned (.int .i64 (k : Int)) ∧ SyncAt cs k ∧ w = w'

theorem synced_any (A : Option Addr) (cap : Nat) (cs : List CallM) (w : World) (h : CallsAt w A cs) (hl : cs.length ≤ 1099511627776) :
    Calls Try.prog 48 #[.slice A cs.length cap] w (SyncedIs w cs) := by
  have H := Lib.hid h
  clear h
  go_enter Try.func48, Try.ntmps48
  go_wp2
  go_loop [3] (fun t => ∃ k : Nat, t = .int .i64 (k : Int) ∧ k ≤ cs.length ∧ Hid (∀ j c, k ≤ j → cs[j]? = some c → c.sync = false)) (fun t => (intOf t).toNat)
  case atStart => exact ⟨cs.length, rfl, Nat.le_refl _, fun j c hj hc => by rw [List.getElem?_eq_none hj] at hc; cases hc⟩
  case round =>
    obtain ⟨k, rfl, hk, hs⟩ := hrel
    by_cases h0 : 0 < k
    · obtain ⟨m, rfl⟩ : ∃ m, k = m + 1 := ⟨k - 1, by omega⟩
      have hm : m < cs.length := by omega
      obtain ⟨g, o, rfl, hr⟩ := H.out m cs[m] (List.getElem?_eq_getElem hm)
      have hc : w.cell? ⟨g, o + m * 34, none⟩ = some (.bool cs[m].sync) := by simpa using hr 0 (.bool cs[m].sync) rfl
      go_wp2
      · refine ⟨⟨m, rfl, by omega, fun j c hj hc => ?_⟩, by simp [intOf]⟩
        rcases Nat.eq_or_lt_of_le hj with e | e
        · subst e
          rw [List.getElem?_eq_getElem hm] at hc
          injection hc with hc
          rw [← hc]
          simpa using (show (!cs[m].sync) = true by assumption)
        · exact hs.out j c e hc
      · go_ret
        refine ⟨m + 1, rfl, ⟨by omega, hs.out, fun _ => ⟨cs[m], by simp, ?_⟩⟩, rfl⟩
        simpa using (show (!cs[m].sync) = false by assumption)
    · obtain rfl : k = 0 := by omega
      go_wp2
      go_ret
      exact ⟨0, rfl, ⟨Nat.zero_le _, hs.out, fun h => by omega⟩, rfl⟩
end Go.Proofs.Ytpfdlcogldbocaa

namespace Go.Proofs.Ytpfdlcogldbocaa
open Go.RowKit Go.Maps

theorem run_makeMap_len {P : Program} (t k e : TypeId) (kd : IntKind) (n : Int) (ht : P.underlying t = some (.map k e)) (w : World) : (Instr.makeMap t (some (.int kd n))).run P w = .ok (.map (some w.heap.size)) (w.alloc (.map #[] 0)) := by
  simp [Instr.makeMap, run_underlying ht]; rfl

/-- What a map's datum says of its keys. -/
def Says (D : DataW Value) (f : Int → Option (List UInt8)) : Prop := ∀ x : Int, (Lit.int .i64 x).wf = true → Maps.has D (.int .i64 x) = (f x).isSome ∧ ∀ l, f x = some l → ∀ z, D.atKey (.int .i64 x) z = .held (blk l)

section
variable {P : Program} {k t e : TypeId} {w : World} {f : Int → Option (List UInt8)}
/-- The step of a range over a map of blocks. -/
theorem wpList_next_blk {ops : Array Oper} {rest : List Oper} {dd : Option Tmp} {tt : TypeId} {ps : String} {af : Array Edge} {a : Act} {Q : Exit → Act → World → Prop} {it : Tmp} {b r n : Nat} {D : DataW Value} {left : Lit → Bool} {cnt : Nat}
    (hk : P.underlying k = some (.int .i64)) (hf : Says D f) (hit : a.eval (.tmp it) = .pointer (some ⟨r, 0, none⟩)) (h : w.ranges P k heldElem b r n D left cnt)
    (hDone : cnt = 0 → (∀ kl, left kl = false) → wpList P ops Q rest (a.put dd (.tuple #[.bool false])) w)
    (hMore : ∀ (x : Int) (l : List UInt8) (w' : World) (cnt' : Nat), (Lit.int .i64 x).wf = true → f x = some l → left (.int .i64 x) = true → (∀ zd, D.atKey (.int .i64 x) zd = .held (blk l)) → w'.ranges P k heldElem b r n D (fun z => left z && !z.sameKey (.int .i64 x)) cnt' → cnt' < cnt →
      w.grownBy w' (some r) → w'.heap.size = w.heap.size → (Instr.entry (.pointer (some ⟨r, 0, none⟩))).run P w' = .ok (.tuple #[.int .i64 x, blk l]) w' → wpList P ops Q rest (a.put dd (.tuple #[.bool true, .int .i64 x, blk l])) w') :
    wpList P ops Q ({ dst := dd, op := .next (.tmp it) false, type := tt, pos := ps, after := af, guard := none } :: rest) a w := by
  refine wpList_next_ranges (α := Int) (β := Value) w rfl (.tmp it) rfl k (int_keyed hk) heldElem (Value.int .i64) id (fun key kl hkey => by obtain ⟨x, rfl, _⟩ := Maps.keyOf_int_inv hk hkey; exact ⟨x, rfl⟩) (fun v y _ => ⟨v, rfl⟩)
    b r n D left cnt hit h hDone (fun x c kl y w' cnt' hkey hlk hv hat hrg hlt hgr hsz hen => ?_)
  obtain ⟨x', ex, rfl, hwx⟩ := Maps.keyOf_int_inv hk hkey
  cases ex
  obtain ⟨hh, ha⟩ := hf x hwx
  rw [has_true_of_atKey hat] at hh
  cases hfx : f x with
  | none => rw [hfx] at hh; cases hh
  | some l =>
    have e1 := (hat .nil).symm.trans (ha l hfx .nil)
    have e2 : y.1 = .held c := by
      simp only [heldElem, id, Option.some.injEq] at hv
      rw [← hv]
    rw [e2] at e1
    injection e1 with e1
    subst e1
    exact hMore x l w' cnt' hwx hfx hlk (ha l hfx) hrg hlt hgr hsz hen

/-- A row out of a block that is known whole. -/
theorem wpList_load_blk {ops : Array Oper} {rest : List Oper} {dd : Option Tmp} {ty tt : TypeId} {ps : String} {af : Array Edge} {a : Act} {Q : Exit → Act → World → Prop} {x : Tmp} {g nn : Nat} {ee : TypeId} {cs : Array Value} {t' : TypeId}
    (hx : a.eval (.tmp x) = .pointer (some ⟨g, 0, none⟩)) (hg : w.heap[g]? = some (.cells cs t' (0, 0))) (hu : P.underlying ty = some (.array nn ee)) (hi : (P.info? ty).map (·.size) = some cs.size)
    (h : wpList P ops Q rest (a.put dd (.agg cs)) w) : wpList P ops Q ({ dst := dd, op := .load ty (.tmp x), type := tt, pos := ps, after := af, guard := none } :: rest) a w :=
  wpList_load_row rfl ty (.tmp x) rfl g hx t' cs (0, 0) _ hg hu rfl hi h

/-- 'm[k] = v' where the map is of the call's own. -/
theorem wpList_mapUpdate_held {ops : Array Oper} {rest : List Oper} {dd : Option Tmp} {tt : TypeId} {ps : String} {af : Array Edge} {a : Act} {Q : Exit → Act → World → Prop} {m x v : Tmp} {b n : Nat} {D : DataW Value} {y : Int} {u : Value}
    (hk : P.underlying k = some (.int .i64)) (ht : P.underlying t = some (.map k e)) (hm : a.eval (.tmp m) = .map (some b)) (hx : a.eval (.tmp x) = .int .i64 y) (hv : a.eval (.tmp v) = u) (hown : w.ownsMap P k heldElem b n D) (hn : n < maxLen) (hy : (Lit.int .i64 y).wf = true)
    (h : ∀ w', w'.ownsMap P k heldElem b (n + 1) (D.put (.int .i64 y) (.held u)) → w.grownBy w' (some b) → wpList P ops Q rest (a.put dd undef) w') :
    wpList P ops Q ({ dst := dd, op := .mapUpdate t (.tmp m) (.tmp x) (.tmp v), type := tt, pos := ps, after := af, guard := none } :: rest) a w :=
  wpList_mapUpdate_own w rfl (.tmp m) (.tmp x) (.tmp v) t rfl k e (int_keyed hk) ht heldElem b n D hm hown hn (.int .i64 y) u (.int .i64 y) hx hv (keyOf_int_mk hk hy) (.held u) [] rfl h
end

def Blocks32 (f : Int → Option (List UInt8)) : Prop := ∀ x l, f x = some l → l.length = 32
def CopiedIs (w : World) (n : Nat) (f : Int → Option (List UInt8)) (e : Ending) (w' : World) : Prop :=
  ∃ c, e = .returned (.map (some c)) ∧ w.heap.size ≤ c ∧ MapIs Try.prog 3 w' c n f ∧ Below w.heap.size w w'

/-- How far the copying is. -/
def CopyRel (w : World) (b c r n s : Nat) (D : DataW Value) (wr : World) : Prop :=
  ∃ left cnt m Dout, wr.ranges Try.prog 3 heldElem b r n D left cnt ∧ wr.ownsMap Try.prog 3 heldElem c m Dout ∧ IsMap Dout ∧ Agree Dout D left ∧ m + cnt ≤ s ∧ Below w.heap.size w wr

set_option maxRecDepth 100000 in
set_option maxHeartbeats 1000000 in
theorem copied_any (b n : Nat) (f : Int → Option (List UInt8)) (w : World) (h : MapIs Try.prog 3 w b n f) (hf : Blocks32 f) (hn : n ≤ 1099511627776) :
    Calls Try.prog 49 #[.map (some b)] w (CopiedIs w n f) := by
  obtain ⟨D, hown, hD, hsay⟩ := h
  have hsay' : Says D f := hsay
  have HS := Lib.hid hsay'
  have HF := Lib.hid hf
  have HO := Lib.hid hown
  have HD := Lib.hid hD
  have hsz := hown.size_le
  have hbc : b ≠ w.heap.size := fun e => by have := hown.lt; omega
  have hmk := fun x => run_makeMap_len (P := Try.prog) 68 3 81 .i64 x Try.underlying68
  clear hsay hsay' hf hown hD
  go_enter Try.func49, Try.ntmps49
  go_wp2_with (first
    | (at_len; refine wpList_len_own _ rfl _ 68 rfl 3 81 Try.underlying68 heldElem b n D rfl HO.out ?_)
    | (at_range; refine wpList_range_own _ rfl _ 68 rfl 3 81 (int_keyed Try.underlying3) Try.underlying68 heldElem b n D rfl (HO.out.alloc _) ?_; intro w0 hrg0 hg0 hs0))
  go_frame
  have e1 : (w.alloc (.map #[] 0)).heap.size = w.heap.size + 1 := by simp
  rw [e1] at hrg0
  rw [e1]
  have hb0 : Below w.heap.size w w0 := ((Below.refl _ _).alloc (Nat.le_refl _) _).grown hg0 (by simp) (fun k hk => by cases hk)
  have hc0 : w0.ownsMap Try.prog 3 heldElem w.heap.size 0 (.map []) := (World.ownsMap_made w Try.prog 3 heldElem).kept hg0 (by simp)
  go_loopw [4] (fun _ wr => CopyRel w b w.heap.size (w.heap.size + 1) n (Maps.size D) D wr) (fun _ wr => wr.rangeLeft b (w.heap.size + 1))
  case atStart => exact ⟨_, _, 0, _, hrg0, hc0, isMap_empty, agree_start D, by omega, hb0⟩
  case round =>
    obtain ⟨left, cnt, m, Dout, hrg, hout, hism, hag, hmc, hbel⟩ := hrel
    have hlo := hout.lt
    go_wp2_with (refine wpList_next_blk (it := 10) Try.underlying3 HS.out rfl hrg ?_ ?_)
    · intro hc0 hl0
      go_wp2
      go_ret
      refine ⟨w.heap.size, rfl, Nat.le_refl _, ⟨Dout, hout.mono (by omega), hism, ?_⟩, hbel⟩
      rw [agree_end hag hl0 (hout.canon (int_keyed Try.underlying3)) (hrg.owns.canon (int_keyed Try.underlying3))]
      exact HS.out
    · intro x l w1 cnt1 hwx hfx hlx hat hrg1 hlt hg1 hs1 hen
      have hl := HF.out x l hfx
      have HI : (Try.prog.info? 81).map (·.size) = some (bytesV l).toArray.size := by rw [size_block]; simp [length_bytesV, hl]
      have HC : 32 = (bytesV l).toArray.size := by simp [length_bytesV, hl]
      have hI := Lib.hid HI
      have hC := Lib.hid HC
      have hbel1 := hbel.grown hg1 (by have := hbel.size; omega) (fun k hk => by cases hk; omega)
      have hout1 := hout.kept hg1 (by intro e; injection e with e; omega)
      have hAT := Lib.hid hat
      have hRG := Lib.hid hrg1
      have hSZ := Lib.hid hs1
      clear hl HI HC hat hrg1 hs1
      go_wp2_with (first
        | (refine wpList_store_new (x := 5) (y := 15) (cells := (bytesV l).toArray) rfl rfl hI.out hC.out (all_bytesV _) ?_)
        | (refine wpList_load_blk (x := 5) (cs := (bytesV l).toArray) (t' := 81) rfl (heap_alloc_new w1 _) Try.underlying81 hI.out ?_)
        | (refine wpList_mapUpdate_held (m := 16) (x := 17) (v := 18) (u := blk l) Try.underlying3 Try.underlying68 rfl rfl rfl (hout1.alloc _) (by unfold maxLen; omega) hwx ?_; intro w2 hown2 hg2))
      go_frame
      go_roundw
      case rel =>
        refine ⟨_, cnt1, m + 1, _, (hRG.out.alloc _).kept hg2 ?_ ?_, hown2, hism.put _ _, agree_step hag hism ((int_keyed (P := Try.prog) Try.underlying3).key (keyOf_int_mk Try.underlying3 hwx)) hAT.out, by omega, (hbel1.alloc hbel1.size _).grown hg2 (by have := hbel1.size; simp; omega) (fun k hk => by cases hk; omega)⟩
        · intro e; injection e with e; exact hbc e
        · intro e; injection e with e; omega
      case measure =>
        rw [((hRG.out.alloc _).kept hg2 (fun e => by injection e with e; exact hbc e) (fun e => by injection e with e; omega)).left_eq, hrg.left_eq]
        exact hlt
end Go.Proofs.Ytpfdlcogldbocaa
