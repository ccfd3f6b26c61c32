/-
  The reference's disk in memory, and its Read. Conditions: those named at each contract.
-/
import Derived.Test.YtficckhhlhcogaaRef1
import Derived.Deep.QuietTactic
import Derived.BigQuiet
namespace Go.Proofs.Ytficckhhlhcogaa
open Go.RowKit Go.Maps

/-- 32 bytes lie at A, in a block of Y. -/
def BSb (w : World) (Y : Nat → Prop) (A : Option Addr) (cap : Nat) (l : List UInt8) : Prop := BytesAt w A l ∧ l.length = 32 ∧ (32 ≤ cap ∧ cap ≤ maxLen) ∧ ∀ g o, A = some ⟨g, o, none⟩ → Y g
/-- A slice of 32 bytes, in a block of Y. -/
def BS (w : World) (Y : Nat → Prop) (v : Value) (l : List UInt8) : Prop := ∃ A cap, v = .slice A 32 cap ∧ BSb w Y A cap l
theorem BS.turned {w w' : World} {Y T : Nat → Prop} {v : Value} {l : List UInt8} (h : BS w Y v l) (ht : Turned T w w') (hY : ∀ j, Y j → ¬ T j) : BS w' Y v l := by
  obtain ⟨A, cap, rfl, hb, hl, hc, hy⟩ := h
  refine ⟨A, cap, rfl, fun i b hi => ?_, hl, hc, hy⟩
  obtain ⟨g, o, e, hc⟩ := hb i b hi
  exact ⟨g, o, e, ht.cell hc (hY g (hy g o e))⟩
theorem BS.more {w : World} {Y Y' : Nat → Prop} {v : Value} {l : List UInt8} (h : BS w Y v l) (hY : ∀ j, Y j → Y' j) : BS w Y' v l := by
  obtain ⟨A, cap, rfl, hb, hl, hc, hy⟩ := h
  exact ⟨A, cap, rfl, hb, hl, hc, fun g o e => hY g (hy g o e)⟩
/-- The reference's disk: what it began with, and its calls. -/
def RefIs (w : World) (Y : Nat → Prop) (p n : Nat) (vB vL : Value) (B : Int → List UInt8) (cs : List CallM) : Prop :=
  w.heap[p]? = some (.cells #[.int .i64 (n : Int), vB, vL] 53 (0, 0)) ∧
    (∃ bs, w.ownsRow 0 31 1 vB n bs ∧ ∀ i, i < n → ∃ v, bs[i]? = some v ∧ BS w Y v (B (i : Int))) ∧
    (∃ rows, w.ownsRow 0 63 2 vL cs.length rows ∧ ∀ i c, cs[i]? = some c → ∃ v, rows[i * 2]? = some (.int .i64 (if c.sync then -1 else c.n)) ∧ rows[i * 2 + 1]? = some v ∧ (c.sync = false → BS w Y v c.bytes))
def refFoot (p : Nat) (vB vL : Value) (j : Nat) : Prop := j = p ∨ vB.ownBlock = some j ∨ vL.ownBlock = some j
theorem RefIs.turned {w w' : World} {Y T : Nat → Prop} {p n : Nat} {vB vL : Value} {B : Int → List UInt8} {cs : List CallM} (h : RefIs w Y p n vB vL B cs) (ht : Turned T w w') (hf : ∀ j, refFoot p vB vL j → ¬ T j) (hY : ∀ j, Y j → ¬ T j) : RefIs w' Y p n vB vL B cs := by
  obtain ⟨hbox, ⟨bs, hB, hBs⟩, ⟨rows, hL, hLs⟩⟩ := h
  refine ⟨ht.obj hbox (hf p (.inl rfl)), ⟨bs, ownsRow_turned hB ht (fun k hk => hf k (.inr (.inl hk))), fun i hi => ?_⟩, ⟨rows, ownsRow_turned hL ht (fun k hk => hf k (.inr (.inr hk))), fun i c hc => ?_⟩⟩
  · obtain ⟨v, h1, h2⟩ := hBs i hi
    exact ⟨v, h1, h2.turned ht hY⟩
  · obtain ⟨v, h1, h2, h3⟩ := hLs i c hc
    exact ⟨v, h1, h2, fun hs => (h3 hs).turned ht hY⟩
/-- What block x has behind k calls. -/
def rdTo (B : Int → List UInt8) (cs : List CallM) (x : Int) : Nat → List UInt8
  | 0 => B x
  | k + 1 => if (cs.getD k syncM).sync = false ∧ (cs.getD k syncM).n = x then (cs.getD k syncM).bytes else rdTo B cs x k

/-- The calls, cell by cell. -/
theorem ref_calls {w : World} {Y : Nat → Prop} {vL : Value} {cs : List CallM} {rows : List Value} (hL : w.ownsRow 0 63 2 vL cs.length rows)
    (hr : ∀ i c, cs[i]? = some c → ∃ v, rows[i * 2]? = some (.int .i64 (if c.sync then -1 else c.n)) ∧ rows[i * 2 + 1]? = some v ∧ (c.sync = false → BS w Y v c.bytes)) :
    ∃ LA lcap, vL = .slice LA cs.length lcap ∧ ∀ i c, cs[i]? = some c → ∃ g v, LA = some ⟨g, 0, none⟩ ∧ w.cell? ⟨g, i * 2, none⟩ = some (.int .i64 (if c.sync then -1 else c.n)) ∧ w.cell? ⟨g, i * 2 + 1, none⟩ = some v ∧ (c.sync = false → BS w Y v c.bytes) := by
  rcases hL.2 with ⟨rfl, h0⟩ | ⟨g, cap, cur, rfl, _⟩
  · refine ⟨none, 0, by rw [h0], fun i c hc => ?_⟩
    have : i < cs.length := (List.getElem?_eq_some_iff.1 hc).1
    omega
  · refine ⟨some ⟨g, 0, none⟩, cap, rfl, fun i c hc => ?_⟩
    obtain ⟨v, h1, h2, h3⟩ := hr i c hc
    refine ⟨g, v, rfl, ?_, ?_, h3⟩
    · have := hL.cells (g := g) rfl _ _ h1
      rwa [Addr.add_mid, Nat.zero_add] at this
    · have := hL.cells (g := g) rfl _ _ h2
      rwa [Addr.add_mid, Nat.zero_add] at this

set_option maxRecDepth 100000 in
set_option maxHeartbeats 1000000 in
theorem ref_read (Y : Nat → Prop) (p n : Nat) (vB vL : Value) (B : Int → List UInt8) (cs : List CallM) (x : Int) (w : World) (h : RefIs w Y p n vB vL B cs) (h0 : 0 ≤ x) (h1 : x < n) (hn : n ≤ 65536) (hc : cs.length ≤ 1073741824) :
    Calls Try.prog 28 #[.pointer (some ⟨p, 0, none⟩), .int .i64 x] w fun e w' => ∃ v, e = .returned (.tuple #[v, .int .i64 0]) ∧ BS w Y v (rdTo B cs x cs.length) ∧ w = w' := by
  obtain ⟨xn, rfl⟩ : ∃ xn : Nat, x = (xn : Int) := ⟨x.toNat, by omega⟩
  obtain ⟨hbox, ⟨bs, hB, hBs⟩, ⟨rows, hL, hLs⟩⟩ := h
  have z0 : w.cell? ⟨p, 0, none⟩ = some (.int .i64 (n : Int)) := cell_of_row _ _ 0 _ _ _ hbox
  have z1 : w.cell? ⟨p, 1, none⟩ = some vB := cell_of_row _ _ 1 _ _ _ hbox
  have z2 : w.cell? ⟨p, 2, none⟩ = some vL := cell_of_row _ _ 2 _ _ _ hbox
  obtain ⟨LA, lcap, rfl, hcl⟩ := ref_calls hL hLs
  obtain ⟨bg, bcap, rfl, _, _⟩ := hB.form (by omega)
  obtain ⟨v0, hv0, A0, cap0, rfl, hb0⟩ := hBs xn (by omega)
  have zb : w.cell? ⟨bg, xn, none⟩ = some (.slice A0 32 cap0) := by
    have := hB.cells (g := bg) rfl xn _ hv0
    rw [Addr.add_mid, Nat.zero_add] at this
    exact this
  have HCL := Lib.hid hcl
  have HB0 := Lib.hid hb0
  clear hB hBs hL hLs hv0 hb0 hbox hcl
  go_enter Try.func28, Try.ntmps28
  go_wp2_with fail
  go_loop [6, 7] (fun b ii => ∃ k : Nat, ii = .int .i64 (k : Int) ∧ k ≤ cs.length ∧ ∃ A cap, b = .slice A 32 cap ∧ Hid (BSb w Y A cap (rdTo B cs (xn : Int) k))) (fun _ ii => cs.length - (intOf ii).toNat)
  case atStart => exact ⟨0, rfl, Nat.zero_le _, A0, cap0, rfl, HB0⟩
  case round =>
    obtain ⟨k, rfl, hk, A, cap, rfl, HR⟩ := hrel
    by_cases hlt : k < cs.length
    · obtain ⟨c, hc⟩ : ∃ c, cs[k]? = some c := ⟨_, List.getElem?_eq_getElem hlt⟩
      obtain ⟨g, v, rfl, c1, c2, hs⟩ := HCL.out k c hc
      have hki : (k : Int) < (cs.length : Int) := by omega
      have hk0 : (0 : Int) ≤ (k : Int) := by omega
      have e : cs.getD k syncM = c := by rw [List.getD_eq_getElem?_getD, hc]; rfl
      have hst : rdTo B cs (xn : Int) (k + 1) = if c.sync = false ∧ c.n = (xn : Int) then c.bytes else rdTo B cs (xn : Int) k := by
        show (if (cs.getD k syncM).sync = false ∧ (cs.getD k syncM).n = (xn : Int) then (cs.getD k syncM).bytes else rdTo B cs (xn : Int) k) = _
        rw [e]
      have HST := Lib.hid hst
      have HSS := Lib.hid hs
      clear hst hs hc e
      by_cases hh : c.sync = false ∧ c.n = (xn : Int)
      · obtain ⟨h1, h2⟩ := hh
        obtain ⟨A2, cap2, rfl, hb2⟩ := HSS.out h1
        have HB2 := Lib.hid hb2
        have HE : Hid (rdTo B cs (xn : Int) (k + 1) = c.bytes) := by
          have := HST.out
          rw [if_pos ⟨h1, h2⟩] at this
          exact this
        rw [h1, h2] at c1
        simp only [Bool.false_eq_true, if_false] at c1
        clear h1 h2 hb2
        go_wp2_with fail
        go_round
        case rel => exact ⟨k + 1, by go_num, by omega, A2, cap2, rfl, by rw [HE.out]; exact HB2⟩
        case measure => simp [intOf]; omega
      · obtain ⟨y, hy⟩ : ∃ y : Int, y = if c.sync then -1 else c.n := ⟨_, rfl⟩
        rw [← hy] at c1
        have hyx : (y == (xn : Int)) = false := by
          rw [hy]
          cases hsy : c.sync
          · simp
            intro e
            exact hh ⟨hsy, e⟩
          · simp
        have HE : Hid (rdTo B cs (xn : Int) (k + 1) = rdTo B cs (xn : Int) k) := by
          have := HST.out
          rw [if_neg hh] at this
          exact this
        clear hh hy
        go_wp2_with fail
        go_round
        case rel => exact ⟨k + 1, by go_num, by omega, A, cap, rfl, by rw [HE.out]; exact HR⟩
        case measure => simp [intOf]; omega
    · have HE := Lib.hid (show k = cs.length by omega)
      have hk2 : (cs.length : Int) ≤ (k : Int) := by omega
      go_wp2_with fail
      go_ret2
      refine ⟨_, rfl, ⟨A, cap, rfl, ?_⟩, rfl⟩
      rw [← HE.out]
      exact HR.out

theorem ref_read_out (p n : Nat) (x : Int) (w : World) (hc : w.cell? ⟨p, 0, none⟩ = some (.int .i64 (n : Int))) (h : x < 0 ∨ (n : Int) ≤ x) :
    Calls Try.prog 28 #[.pointer (some ⟨p, 0, none⟩), .int .i64 x] w fun e w' => e = .returned (.tuple #[.slice none 0 0, .int .i64 21]) ∧ w = w' := by
  rcases h with h | h
  · go_enter Try.func28, Try.ntmps28
    go_wp2
    go_ret2
    exact ⟨rfl, rfl⟩
  · by_cases h0 : x < 0
    · go_enter Try.func28, Try.ntmps28
      go_wp2
      go_ret2
      exact ⟨rfl, rfl⟩
    · have h0' : 0 ≤ x := by omega
      clear h0
      go_enter Try.func28, Try.ntmps28
      go_wp2
      go_ret2
      exact ⟨rfl, rfl⟩
end Go.Proofs.Ytficckhhlhcogaa
