/-
  What kept of package disk returns: those writes for which keep is true, in a slice of its own. Conditions: the writes and the bools lie in memory as CallsAt and BoolsAt say.
-/
import Derived.Test.YtpfdlcogldbocaaLay
namespace Go.Proofs.Ytpfdlcogldbocaa
open Go.RowKit Go.Maps

def BoolsAt (w : World) (A : Option Addr) (ks : List Bool) : Prop := ∀ i b, ks[i]? = some b → ∃ g o, A = some ⟨g, o, none⟩ ∧ w.cell? ⟨g, o + i, none⟩ = some (.bool b)

/-- Those of the first k that are kept. -/
def keptTo (ws : List CallM) (ks : List Bool) : Nat → List CallM
  | 0 => []
  | k + 1 => keptTo ws ks k ++ (if ks.getD k false then [ws.getD k syncM] else [])
def keptM (ws : List CallM) (ks : List Bool) : List CallM := keptTo ws ks (min ws.length ks.length)

theorem keptTo_len (ws : List CallM) (ks : List Bool) : ∀ k, (keptTo ws ks k).length ≤ k
  | 0 => Nat.le_refl _
  | k + 1 => by
    have := keptTo_len ws ks k
    unfold keptTo
    split <;> simp <;> omega
theorem keptTo_mem (ws : List CallM) (ks : List Bool) : ∀ k, k ≤ ws.length → ∀ c ∈ keptTo ws ks k, c ∈ ws
  | 0, _, c, h => by cases h
  | k + 1, hk, c, h => by
    unfold keptTo at h
    rcases List.mem_append.1 h with h | h
    · exact keptTo_mem ws ks k (by omega) c h
    · split at h
      · have e : c = ws.getD k syncM := by simpa using h
        rw [e, List.getD_eq_getElem?_getD, List.getElem?_eq_getElem (by omega)]
        exact List.getElem_mem _
      · cases h
theorem keptM_mem (ws : List CallM) (ks : List Bool) : ∀ c ∈ keptM ws ks, c ∈ ws := keptTo_mem ws ks _ (Nat.min_le_left _ _)
theorem keptTo_yes {ws : List CallM} {ks : List Bool} {k : Nat} (h : ks[k]? = some true) {c : CallM} (hc : ws[k]? = some c) : keptTo ws ks (k + 1) = keptTo ws ks k ++ [c] := by
  simp [keptTo, List.getD_eq_getElem?_getD, h, hc]
theorem keptTo_no {ws : List CallM} {ks : List Bool} {k : Nat} (h : ks[k]? = some false) : keptTo ws ks (k + 1) = keptTo ws ks k := by
  simp [keptTo, List.getD_eq_getElem?_getD, h]

/-- A row by value out of the midst of a block. -/
theorem wpList_load_at {P : Program} {w : World} {ops : Array Oper} {rest : List Oper} {dd : Option Tmp} {ty tt : TypeId} {ps : String} {af : Array Edge} {a : Act} {Q : Exit → Act → World → Prop} {x : Tmp} {g o : Nat} {cs : List Value} {d : TypeDesc}
    (hx : a.eval (.tmp x) = .pointer (some ⟨g, o, none⟩)) (hc : w.rangeAt g o cs) (hu : P.underlying ty = some d) (hd : d.isRow = true) (hi : (P.info? ty).map (·.size) = some cs.length)
    (h : wpList P ops Q rest (a.put dd (.agg cs.toArray)) w) : wpList P ops Q ({ dst := dd, op := .load ty (.tmp x), type := tt, pos := ps, after := af, guard := none } :: rest) a w :=
  wpList_load_mid rfl ty (.tmp x) rfl g o hx cs d hc hu hd hi h

theorem run_min_nat {P : Program} (w : World) (ts : Array TypeId) (t : TypeId) (a b : Nat) : (Builtin.min_ ts t #[.int .i64 (a : Int), .int .i64 (b : Int)]).run P w = .ok (.int .i64 ((min a b : Nat) : Int)) w := by
  by_cases h : b < a
  · have e : min a b = b := by omega
    have h2 : ((b : Int) < (a : Int)) := by omega
    rw [e]
    simp [Builtin.min_, Builtin.min2, h2]
  · have e : min a b = a := by omega
    have h2 : ¬ ((b : Int) < (a : Int)) := by omega
    rw [e]
    simp [Builtin.min_, Builtin.min2, h2]

/-- A row of the call's own. -/
def RowIs (w w' : World) (v : Value) (cs : List CallM) : Prop :=
  w'.ownsRow w.heap.size 86 34 v cs.length (callsV cs) ∧ Below w.heap.size w w'
def KeptIs (w : World) (cs : List CallM) (e : Ending) (w' : World) : Prop := ∃ v, e = .returned v ∧ RowIs w w' v cs

set_option maxRecDepth 100000 in
set_option maxHeartbeats 1000000 in
theorem kept_any (A K : Option Addr) (cap kcap : Nat) (ws : List CallM) (ks : List Bool) (w : World) (h : CallsAt w A ws) (hk : BoolsAt w K ks) (hok : ∀ c ∈ ws, c.ok) (hl : ws.length ≤ 1099511627776) (_hl2 : ks.length ≤ 9223372036854775807) :
    Calls Try.prog 51 #[.slice A ws.length cap, .slice K ks.length kcap] w (KeptIs w (keptM ws ks)) := by
  have H := Lib.hid h
  have HK := Lib.hid hk
  have HOK := Lib.hid hok
  obtain ⟨i0, hi0, hz0, hz1, hz2⟩ := info_parts info_call
  clear h hk hok
  have hmin := run_min_nat (P := Try.prog) w #[3, 3] 3 ws.length ks.length
  have hNw := Nat.min_le_left ws.length ks.length
  have hNk := Nat.min_le_right ws.length ks.length
  show Calls Try.prog 51 #[.slice A ws.length cap, .slice K ks.length kcap] w (KeptIs w (keptTo ws ks (min ws.length ks.length)))
  generalize min ws.length ks.length = N at hmin hNw hNk ⊢
  go_enter Try.func51, Try.ntmps51
  go_wp2
  go_loopw [5, 12] (fun v i wr => ∃ k : Nat, i = .int .i64 (k : Int) ∧ k ≤ N ∧ RowIs w wr v (keptTo ws ks k)) (fun _ i _ => N - (intOf i).toNat)
  case atStart => exact ⟨0, rfl, Nat.zero_le _, World.ownsRow_nil _ _ _ _, Below.refl _ _⟩
  case round =>
    obtain ⟨k, rfl, hk, hrow, hbel⟩ := hrel
    by_cases hlt : k < N
    · have hb : ks[k]? = some (ks[k]'(by omega)) := List.getElem?_eq_getElem (by omega)
      have hc : ws[k]? = some (ws[k]'(by omega)) := List.getElem?_eq_getElem (by omega)
      generalize ks[k]'(by omega) = bb at hb
      generalize ws[k]'(by omega) = c at hc
      obtain ⟨kg, ko, rfl, hkc⟩ := HK.out k bb hb
      obtain ⟨wg, wo, rfl, hwc⟩ := H.out k c hc
      have hcok := HOK.out c (List.mem_of_getElem? hc)
      have kc : wr.cell? ⟨kg, ko + k, none⟩ = some (.bool bb) := (hbel.cell (World.block_lt_of_cell? w _ hkc)).trans hkc
      have HC : Hid (wr.rangeAt wg (wo + k * 34) c.cells) := fun j u hu => (hbel.cell (World.block_lt_of_cell? w _ (hwc j u hu))).trans (hwc j u hu)
      have kl := keptTo_len ws ks k
      have hlw : (k : Int) < (ws.length : Int) := by omega
      have hlk : (k : Int) < (ks.length : Int) := by omega
      have HB := Lib.hid hb
      have HCC := Lib.hid hc
      have HCO := Lib.hid hcok
      clear hkc hwc hb hc hcok
      cases bb with
      | false =>
        have E := Lib.hid (keptTo_no (ws := ws) HB.out)
        go_wp2
        go_roundw
        case rel => exact ⟨k + 1, by go_num, by omega, by rw [E.out]; exact ⟨hrow, hbel⟩⟩
        case measure => simp [intOf]; omega
      | true =>
        have E := Lib.hid (keptTo_yes HB.out HCC.out)
        have e34 := CallM.length_cells HCO.out
        have hf2 := fold_cells c HCO.out
        have HI : Hid ((Try.prog.info? 86).map (·.size) = some c.cells.length) := by unfold Hid; rw [size_call, e34]
        have H34 := Lib.hid e34
        have HR := Lib.hid hrow
        go_wp2_with (first
          | (refine wpList_load_at (x := 22) (cs := c.cells) rfl HC.out Try.underlying86 rfl HI.out ?_)
          | (at_builtin; refine wpList_append_lies _ rfl _ _ _ rfl w.heap.size 86 i0 _ 34 48 Try.underlying82 hi0 hz0 hz1 hz2 (by rfl) (by omega) _ _ (callsV (keptTo ws ks k)) rfl (HR.out.alloc _) ⟨wr.heap.size, 0, none⟩ 1 1 c.cells rfl (by rw [H34.out]) (World.news_of_block (cs := c.cells.toArray) (t := 86) (fr := (0, 0)) (heap_alloc_new wr _)) CallM.oneCell (by omega) (by unfold maxLen; omega) (by omega) (by have := hbel.size; simp; omega) (wr.heap.size + 1) (by simp) ?_; intro gg cap1 w1 hown1 hgrow hat hlt1))
        go_roundw
        case rel =>
          refine ⟨k + 1, by go_num, by omega, ?_⟩
          unfold RowIs
          rw [E.out, List.length_append, callsV_append, callsV_one]
          exact ⟨hown1, (hbel.alloc hbel.size _).grown hgrow (by have := hbel.size; simp; omega) (fun g hg => (HR.out.lt g hg).1)⟩
        case measure => simp [intOf]; omega
    · have e : k = N := by omega
      subst e
      go_wp2
      go_ret
      exact ⟨_, rfl, hrow, hbel⟩
end Go.Proofs.Ytpfdlcogldbocaa
