/-
  The reference's small functions: which of m a raw number speaks of, and whether bytes are one. Conditions: those named at each contract.
  The reference's disk in memory, and its Read. Conditions: those named at each contract.
  The reference's Sync, and its disk behind an append to its calls. Conditions: those named at each contract.
-/
import Derived.Test.YtpfdlcogldbocaaConv
import Derived.Deep.QuietTactic
import Derived.BigQuiet
namespace Go.Proofs.Ytpfdlcogldbocaa
open Go.RowKit Go.Maps

theorem pick_any (n : Int) (m : Nat) (w : World) (hn : (Lit.int .i64 n).wf = true) (hm : 0 < m) (hm2 : m ≤ 1099511627776) :
    Calls Try.prog 30 #[.int .i64 n, .int .i64 (m : Int)] w fun e w' => e = .returned (.int .i64 (red n m : Int)) ∧ w = w' := by
  obtain ⟨b1, b2⟩ := i64_bounds hn
  have hm0 : (0 : Int) < (m : Int) := by omega
  by_cases h : n < 0
  · have e : (red n m : Int) = -((n + 1).tmod m) := by
      unfold red
      rw [if_pos h, Int.natCast_emod, Int.toNat_of_nonneg (by omega), ← Int.neg_tmod, Int.tmod_eq_emod_of_nonneg (by omega)]
    have E := Lib.hid e
    clear e
    go_enter Try.func30, Try.ntmps30
    go_wp2
    go_ret
    refine ⟨?_, rfl⟩
    rw [E.out]
    rfl
  · have e : (red n m : Int) = n % m := by
      unfold red
      rw [if_neg h, Int.natCast_emod, Int.toNat_of_nonneg (by omega)]
    have h' : 0 ≤ n := by omega
    have E := Lib.hid e
    clear e h
    go_enter Try.func30, Try.ntmps30
    go_wp2
    go_ret
    refine ⟨?_, rfl⟩
    rw [E.out]
    rfl

theorem same_eq (A B : Option Addr) (l : List UInt8) (c1 c2 : Nat) (w : World) (hA : BytesAt w A l) (hB : BytesAt w B l) (hl : 0 < l.length) :
    Calls Try.prog 29 #[.slice A l.length c1, .slice B l.length c2] w fun e w' => e = .returned (.bool true) ∧ w = w' := by
  have q1 := conv_at (cap := c1) hA hl
  have q2 := conv_at (cap := c2) hB hl
  clear hA hB
  go_enter Try.func29, Try.ntmps29
  go_wp2
  go_ret
  exact ⟨rfl, rfl⟩

theorem conv_nil (w : World) : (convert 39 9 (.slice none 0 0)).run Try.prog w = .ok (.string ⟨#[]⟩) w := by
  rw [run_convert_bytes_string w 39 9 5 none 0 0 Try.underlying39 Try.underlying5 Try.underlying9]
  simp [Conv.bytesToString]
  rfl
theorem same_nil (w : World) :
    Calls Try.prog 29 #[.slice none 0 0, .slice none 0 0] w fun e w' => e = .returned (.bool true) ∧ w = w' := by
  have q := conv_nil w
  go_enter Try.func29, Try.ntmps29
  go_wp2
  go_ret
  exact ⟨rfl, rfl⟩
end Go.Proofs.Ytpfdlcogldbocaa

namespace Go.Proofs.Ytpfdlcogldbocaa
open Go.RowKit Go.Maps

/-- 32 bytes lie at A, in a block of Y. -/
def BSb (w : World) (Y : Nat → Prop) (A : Option Addr) (cap : Nat) (l : List UInt8) : Prop := BytesAt w A l ∧ l.length = 32 ∧ (32 ≤ cap ∧ cap ≤ maxLen) ∧ ∀ g o, A = some ⟨g, o, none⟩ → Y g
/-- A slice of 32 bytes, in a block of Y. -/
def BS (w : World) (Y : Nat → Prop) (v : Value) (l : List UInt8) : Prop := ∃ A cap, v = .slice A 32 cap ∧ BSb w Y A cap l
theorem BS.turned {w w' : World} {Y T : Nat → Prop} {v : Value} {l : List UInt8} (h : BS w Y v l) (ht : Turned T w w') (hY : ∀ j, Y j → ¬ T j) : BS w' Y v l := by
  obtain ⟨A, cap, rfl, hb, hl, hc, hy⟩ := h
  refine ⟨A, cap, rfl, fun i b hi => ?_, hl, hc, hy⟩
  obtain ⟨g, o, e, hc⟩ := hb i b hi
  exact ⟨g, o, e, ht.cell hc (hY g (hy g o e))⟩
theorem BS.more {w : World} {Y Y' : Nat → Prop} {v : Value} {l : List UInt8} (h : BS w Y v l) (hY : ∀ j, Y j → Y' j) : BS w Y' v l := by
  obtain ⟨A, cap, rfl, hb, hl, hc, hy⟩ := h
  exact ⟨A, cap, rfl, hb, hl, hc, fun g o e => hY g (hy g o e)⟩
/-- The reference's disk: what it began with, and its calls. -/
def RefIs (w : World) (Y : Nat → Prop) (p n : Nat) (vB vL : Value) (B : Int → List UInt8) (cs : List CallM) : Prop :=
  w.heap[p]? = some (.cells #[.int .i64 (n : Int), vB, vL] 52 (0, 0)) ∧
    (∃ bs, w.ownsRow 0 39 1 vB n bs ∧ ∀ i, i < n → ∃ v, bs[i]? = some v ∧ BS w Y v (B (i : Int))) ∧
    (∃ rows, w.ownsRow 0 79 2 vL cs.length rows ∧ ∀ i c, cs[i]? = some c → ∃ v, rows[i * 2]? = some (.int .i64 (if c.sync then -1 else c.n)) ∧ rows[i * 2 + 1]? = some v ∧ (c.sync = false → BS w Y v c.bytes))
def refFoot (p : Nat) (vB vL : Value) (j : Nat) : Prop := j = p ∨ vB.ownBlock = some j ∨ vL.ownBlock = some j
theorem RefIs.turned {w w' : World} {Y T : Nat → Prop} {p n : Nat} {vB vL : Value} {B : Int → List UInt8} {cs : List CallM} (h : RefIs w Y p n vB vL B cs) (ht : Turned T w w') (hf : ∀ j, refFoot p vB vL j → ¬ T j) (hY : ∀ j, Y j → ¬ T j) : RefIs w' Y p n vB vL B cs := by
  obtain ⟨hbox, ⟨bs, hB, hBs⟩, ⟨rows, hL, hLs⟩⟩ := h
  refine ⟨ht.obj hbox (hf p (.inl rfl)), ⟨bs, ownsRow_turned hB ht (fun k hk => hf k (.inr (.inl hk))), fun i hi => ?_⟩, ⟨rows, ownsRow_turned hL ht (fun k hk => hf k (.inr (.inr hk))), fun i c hc => ?_⟩⟩
  · obtain ⟨v, h1, h2⟩ := hBs i hi
    exact ⟨v, h1, h2.turned ht hY⟩
  · obtain ⟨v, h1, h2, h3⟩ := hLs i c hc
    exact ⟨v, h1, h2, fun hs => (h3 hs).turned ht hY⟩
/-- What block x has behind k calls. -/
def rdTo (B : Int → List UInt8) (cs : List CallM) (x : Int) : Nat → List UInt8
  | 0 => B x
  | k + 1 => if (cs.getD k syncM).sync = false ∧ (cs.getD k syncM).n = x then (cs.getD k syncM).bytes else rdTo B cs x k

/-- The calls, cell by cell. -/
theorem ref_calls {w : World} {Y : Nat → Prop} {vL : Value} {cs : List CallM} {rows : List Value} (hL : w.ownsRow 0 79 2 vL cs.length rows)
    (hr : ∀ i c, cs[i]? = some c → ∃ v, rows[i * 2]? = some (.int .i64 (if c.sync then -1 else c.n)) ∧ rows[i * 2 + 1]? = some v ∧ (c.sync = false → BS w Y v c.bytes)) :
    ∃ LA lcap, vL = .slice LA cs.length lcap ∧ ∀ i c, cs[i]? = some c → ∃ g v, LA = some ⟨g, 0, none⟩ ∧ w.cell? ⟨g, i * 2, none⟩ = some (.int .i64 (if c.sync then -1 else c.n)) ∧ w.cell? ⟨g, i * 2 + 1, none⟩ = some v ∧ (c.sync = false → BS w Y v c.bytes) := by
  rcases hL.2 with ⟨rfl, h0⟩ | ⟨g, cap, cur, rfl, _⟩
  · refine ⟨none, 0, by rw [h0], fun i c hc => ?_⟩
    have : i < cs.length := (List.getElem?_eq_some_iff.1 hc).1
    omega
  · refine ⟨some ⟨g, 0, none⟩, cap, rfl, fun i c hc => ?_⟩
    obtain ⟨v, h1, h2, h3⟩ := hr i c hc
    refine ⟨g, v, rfl, ?_, ?_, h3⟩
    · have := hL.cells (g := g) rfl _ _ h1
      rwa [Addr.add_mid, Nat.zero_add] at this
    · have := hL.cells (g := g) rfl _ _ h2
      rwa [Addr.add_mid, Nat.zero_add] at this

set_option maxRecDepth 100000 in
set_option maxHeartbeats 1000000 in
theorem ref_read (Y : Nat → Prop) (p n : Nat) (vB vL : Value) (B : Int → List UInt8) (cs : List CallM) (x : Int) (w : World) (h : RefIs w Y p n vB vL B cs) (h0 : 0 ≤ x) (h1 : x < n) (hn : n ≤ 65536) (hc : cs.length ≤ 1073741824) :
    Calls Try.prog 28 #[.pointer (some ⟨p, 0, none⟩), .int .i64 x] w fun e w' => ∃ v, e = .returned (.tuple #[v, .int .i64 0]) ∧ BS w Y v (rdTo B cs x cs.length) ∧ w = w' := by
  obtain ⟨xn, rfl⟩ : ∃ xn : Nat, x = (xn : Int) := ⟨x.toNat, by omega⟩
  obtain ⟨hbox, ⟨bs, hB, hBs⟩, ⟨rows, hL, hLs⟩⟩ := h
  have z0 : w.cell? ⟨p, 0, none⟩ = some (.int .i64 (n : Int)) := cell_of_row _ _ 0 _ _ _ hbox
  have z1 : w.cell? ⟨p, 1, none⟩ = some vB := cell_of_row _ _ 1 _ _ _ hbox
  have z2 : w.cell? ⟨p, 2, none⟩ = some vL := cell_of_row _ _ 2 _ _ _ hbox
  obtain ⟨LA, lcap, rfl, hcl⟩ := ref_calls hL hLs
  obtain ⟨bg, bcap, rfl, _, _⟩ := hB.form (by omega)
  obtain ⟨v0, hv0, A0, cap0, rfl, hb0⟩ := hBs xn (by omega)
  have zb : w.cell? ⟨bg, xn, none⟩ = some (.slice A0 32 cap0) := by
    have := hB.cells (g := bg) rfl xn _ hv0
    rw [Addr.add_mid, Nat.zero_add] at this
    exact this
  have HCL := Lib.hid hcl
  have HB0 := Lib.hid hb0
  clear hB hBs hL hLs hv0 hb0 hbox hcl
  go_enter Try.func28, Try.ntmps28
  go_wp2_with fail
  go_loop [6, 7] (fun b ii => ∃ k : Nat, ii = .int .i64 (k : Int) ∧ k ≤ cs.length ∧ ∃ A cap, b = .slice A 32 cap ∧ Hid (BSb w Y A cap (rdTo B cs (xn : Int) k))) (fun _ ii => cs.length - (intOf ii).toNat)
  case atStart => exact ⟨0, rfl, Nat.zero_le _, A0, cap0, rfl, HB0⟩
  case round =>
    obtain ⟨k, rfl, hk, A, cap, rfl, HR⟩ := hrel
    by_cases hlt : k < cs.length
    · obtain ⟨c, hc⟩ : ∃ c, cs[k]? = some c := ⟨_, List.getElem?_eq_getElem hlt⟩
      obtain ⟨g, v, rfl, c1, c2, hs⟩ := HCL.out k c hc
      have hki : (k : Int) < (cs.length : Int) := by omega
      have hk0 : (0 : Int) ≤ (k : Int) := by omega
      have e : cs.getD k syncM = c := by rw [List.getD_eq_getElem?_getD, hc]; rfl
      have hst : rdTo B cs (xn : Int) (k + 1) = if c.sync = false ∧ c.n = (xn : Int) then c.bytes else rdTo B cs (xn : Int) k := by
        show (if (cs.getD k syncM).sync = false ∧ (cs.getD k syncM).n = (xn : Int) then (cs.getD k syncM).bytes else rdTo B cs (xn : Int) k) = _
        rw [e]
      have HST := Lib.hid hst
      have HSS := Lib.hid hs
      clear hst hs hc e
      by_cases hh : c.sync = false ∧ c.n = (xn : Int)
      · obtain ⟨h1, h2⟩ := hh
        obtain ⟨A2, cap2, rfl, hb2⟩ := HSS.out h1
        have HB2 := Lib.hid hb2
        have HE : Hid (rdTo B cs (xn : Int) (k + 1) = c.bytes) := by
          have := HST.out
          rw [if_pos ⟨h1, h2⟩] at this
          exact this
        rw [h1, h2] at c1
        simp only [Bool.false_eq_true, if_false] at c1
        clear h1 h2 hb2
        go_wp2_with fail
        go_round
        case rel => exact ⟨k + 1, by go_num, by omega, A2, cap2, rfl, by rw [HE.out]; exact HB2⟩
        case measure => simp [intOf]; omega
      · obtain ⟨y, hy⟩ : ∃ y : Int, y = if c.sync then -1 else c.n := ⟨_, rfl⟩
        rw [← hy] at c1
        have hyx : (y == (xn : Int)) = false := by
          rw [hy]
          cases hsy : c.sync
          · simp
            intro e
            exact hh ⟨hsy, e⟩
          · simp
        have HE : Hid (rdTo B cs (xn : Int) (k + 1) = rdTo B cs (xn : Int) k) := by
          have := HST.out
          rw [if_neg hh] at this
          exact this
        clear hh hy
        go_wp2_with fail
        go_round
        case rel => exact ⟨k + 1, by go_num, by omega, A, cap, rfl, by rw [HE.out]; exact HR⟩
        case measure => simp [intOf]; omega
    · have HE := Lib.hid (show k = cs.length by omega)
      have hk2 : (cs.length : Int) ≤ (k : Int) := by omega
      go_wp2_with fail
      go_ret2
      refine ⟨_, rfl, ⟨A, cap, rfl, ?_⟩, rfl⟩
      rw [← HE.out]
      exact HR.out

theorem ref_read_out (p n : Nat) (x : Int) (w : World) (hc : w.cell? ⟨p, 0, none⟩ = some (.int .i64 (n : Int))) (h : x < 0 ∨ (n : Int) ≤ x) :
    Calls Try.prog 28 #[.pointer (some ⟨p, 0, none⟩), .int .i64 x] w fun e w' => e = .returned (.tuple #[.slice none 0 0, .int .i64 21]) ∧ w = w' := by
  rcases h with h | h
  · go_enter Try.func28, Try.ntmps28
    go_wp2
    go_ret2
    exact ⟨rfl, rfl⟩
  · by_cases h0 : x < 0
    · go_enter Try.func28, Try.ntmps28
      go_wp2
      go_ret2
      exact ⟨rfl, rfl⟩
    · have h0' : 0 ≤ x := by omega
      clear h0
      go_enter Try.func28, Try.ntmps28
      go_wp2
      go_ret2
      exact ⟨rfl, rfl⟩
end Go.Proofs.Ytpfdlcogldbocaa

namespace Go.Proofs.Ytpfdlcogldbocaa
open Go.RowKit Go.Maps

theorem info_ref_call : (Try.prog.info? 79).map (fun i => (i.zero, i.size, i.bytes)) = some (some (.agg #[.int .i64 0, .slice none 0 0]), 2, 32) := by kernel_rfl

theorem turned_setCell (w : World) (p o : Nat) (v : Value) : Turned (fun j => j = p) w (w.setCell ⟨p, o, none⟩ v) :=
  ⟨rfl, rfl, rfl, by simp [World.setCell], fun i _ hi => Below.heap_setCell w ⟨p, o, none⟩ v i hi⟩

/-- The call c is the row's last one, and y its bytes. -/
def RefLike (w : World) (Y : Nat → Prop) (cs : List CallM) (rows : List Value) : Prop :=
  ∀ i c, cs[i]? = some c → ∃ v, rows[i * 2]? = some (.int .i64 (if c.sync then -1 else c.n)) ∧ rows[i * 2 + 1]? = some v ∧ (c.sync = false → BS w Y v c.bytes)
theorem RefLike.push {w w' : World} {Y Y' : Nat → Prop} {cs : List CallM} {rows : List Value} (h : RefLike w Y cs rows) (hl : rows.length = cs.length * 2) (hw : ∀ v l, BS w Y v l → BS w' Y' v l) {c : CallM} {y : Value} (hy : c.sync = false → BS w' Y' y c.bytes) :
    RefLike w' Y' (cs ++ [c]) (rows ++ [.int .i64 (if c.sync then -1 else c.n), y]) := by
  intro i d hd
  rcases Nat.lt_or_ge i cs.length with hi | hi
  · rw [List.getElem?_append_left hi] at hd
    obtain ⟨v, h1, h2, h3⟩ := h i d hd
    exact ⟨v, by rw [List.getElem?_append_left (by omega)]; exact h1, by rw [List.getElem?_append_left (by omega)]; exact h2, fun hs => hw _ _ (h3 hs)⟩
  · have he : i = cs.length := by
      have := (List.getElem?_eq_some_iff.1 hd).1
      simp at this
      omega
    subst he
    have hd' : d = c := by simpa using hd.symm
    subst hd'
    refine ⟨y, ?_, ?_, hy⟩
    · rw [List.getElem?_append_right (by omega), hl, Nat.sub_self]; rfl
    · rw [List.getElem?_append_right (by omega), hl, Nat.add_sub_cancel_left]; rfl

/-- What becomes of the reference's disk by one call more. -/
def RefWrote (w : World) (Y : Nat → Prop) (p n : Nat) (vB vL : Value) (B : Int → List UInt8) (cs : List CallM) (Y' : Nat → Prop) (w' : World) : Prop :=
  ∃ vL', RefIs w' Y' p n vB vL' B cs ∧ (vL'.ownBlock = vL.ownBlock ∨ ∃ g, vL'.ownBlock = some g ∧ w.heap.size ≤ g) ∧ Turned (refFoot p vB vL) w w' ∧ ∀ j, Y j → Y' j

theorem ref_of {w w1 w2 : World} {Y Y' : Nat → Prop} {p n : Nat} {vB vL : Value} {B : Int → List UInt8} {cs : List CallM} {bs rows : List Value} {c : CallM} {y : Value} {g cap : Nat}
    (hbox : w.heap[p]? = some (.cells #[.int .i64 (n : Int), vB, vL] 52 (0, 0))) (hB : w.ownsRow 0 39 1 vB n bs) (hBs : ∀ i, i < n → ∃ v, bs[i]? = some v ∧ BS w Y v (B (i : Int)))
    (hL : w.ownsRow 0 79 2 vL cs.length rows) (hLs : RefLike w Y cs rows) (hsep : ∀ j, Y j → ¬ refFoot p vB vL j) (hb : Below w.heap.size w w1) (hgrow : w1.grownBy w2 vL.ownBlock)
    (hown : w2.ownsRow 0 79 2 (.slice (some ⟨g, 0, none⟩) (cs.length + 1) cap) (cs.length + 1) (rows ++ [.int .i64 (if c.sync then -1 else c.n), y]))
    (hat : vL.ownBlock = some g ∨ w.heap.size ≤ g) (hY : ∀ j, Y j → Y' j) (hp : ∀ j, Y' j → j ≠ p) (hy : c.sync = false → BS w2 Y' y c.bytes) :
    RefWrote w Y p n vB vL B (cs ++ [c]) Y' (w2.setCell ⟨p, 2, none⟩ (.slice (some ⟨g, 0, none⟩) (cs.length + 1) cap)) := by
  have np := own_ne hL hbox (by decide)
  have bp := own_ne hB hbox (by decide)
  have bl : ∀ k, vB.ownBlock = some k → vL.ownBlock ≠ some k := by
    intro k hk
    rcases hB.2 with ⟨rfl, _⟩ | ⟨gb, cb, cur, rfl, _, hg, _⟩
    · cases hk
    · injection hk with hk
      subst hk
      exact own_ne hL hg (by decide)
  have t2 : Turned (fun k => vL.ownBlock = some k) w w2 := turned_grown hgrow hb
  have p2 := t2.obj hbox np
  have gp : g ≠ p := by
    rintro rfl
    exact own_ne hown p2 (by decide) rfl
  have ts := turned_setCell w2 p 2 (.slice (some ⟨g, 0, none⟩) (cs.length + 1) cap)
  have hw : ∀ v l, BS w Y v l → BS (w2.setCell ⟨p, 2, none⟩ (.slice (some ⟨g, 0, none⟩) (cs.length + 1) cap)) Y' v l := fun v l h =>
    ((h.turned t2 (fun j hj e => hsep j hj (.inr (.inr e)))).turned ts (fun j hj e => hsep j hj (.inl e))).more hY
  refine ⟨.slice (some ⟨g, 0, none⟩) (cs.length + 1) cap, ⟨?_, ⟨bs, ownsRow_setCell_other (ownsRow_turned hB t2 bl) bp _, fun i hi => ?_⟩, ⟨rows ++ [.int .i64 (if c.sync then -1 else c.n), y], ?_, ?_⟩⟩, ?_, ?_, hY⟩
  · exact heap_setCell_same w2 p 2 _ _ (.slice (some ⟨g, 0, none⟩) (cs.length + 1) cap) p2
  · obtain ⟨v, h1, h2⟩ := hBs i hi
    exact ⟨v, h1, hw _ _ h2⟩
  · rw [List.length_append]
    exact ownsRow_setCell_other hown (by simp [Value.ownBlock]; exact gp) _
  · exact hLs.push hL.1 hw (fun hs => (hy hs).turned ts (fun j hj e => hp j hj e))
  · rcases hat with hat | hat
    · exact .inl (by rw [hat]; rfl)
    · exact .inr ⟨g, rfl, hat⟩
  · refine ⟨t2.os, t2.tape, t2.output, by simpa [World.setCell] using t2.size, fun k hk hn => ?_⟩
    exact (Below.heap_setCell _ _ _ _ (fun e => hn (.inl e))).trans (t2.block k hk (fun e => hn (.inr (.inr e))))

set_option maxRecDepth 100000 in
set_option maxHeartbeats 1000000 in
theorem ref_sync (Y : Nat → Prop) (p n : Nat) (vB vL : Value) (B : Int → List UInt8) (cs : List CallM) (w : World) (h : RefIs w Y p n vB vL B cs) (hsep : ∀ j, Y j → ¬ refFoot p vB vL j) (hcs : cs.length ≤ 1073741824) :
    Calls Try.prog 15 #[.pointer (some ⟨p, 0, none⟩)] w fun e w' => e = .returned (.int .i64 0) ∧ RefWrote w Y p n vB vL B (cs ++ [syncM]) Y w' := by
  obtain ⟨hbox, ⟨bs, hB, hBs⟩, ⟨rows, hL, hLs⟩⟩ := h
  have c2 : w.cell? ⟨p, 2, none⟩ = some vL := cell_of_row _ _ 2 _ _ _ hbox
  have fz : w.frozen? ⟨p, 2, none⟩ = false := frozen_of_row w p 2 _ _ hbox
  have lp := World.block_lt_of_cell? w _ c2
  have np := own_ne hL hbox (by decide)
  obtain ⟨i0, hi0, hz0, hz1, hz2⟩ := info_parts info_ref_call
  have HO := Lib.hid hL
  have HN := Lib.hid np
  have HCS := Lib.hid hcs
  have HBX := Lib.hid hbox
  have HB := Lib.hid hB
  have HBS := Lib.hid hBs
  have HLS := Lib.hid hLs
  have HSP := Lib.hid hsep
  clear np hcs hbox hB hBs hL hLs hsep
  go_enter Try.func15, Try.ntmps15
  go_wp2_with (at_builtin; refine wpList_append_lies _ rfl _ _ _ rfl 0 79 i0 _ 2 32 Try.underlying50 hi0 hz0 hz1 hz2 (by rfl) (by omega) vL cs.length rows rfl (HO.out.alloc _) ⟨w.heap.size, 0, none⟩ 1 1 [.int .i64 (-1), .slice none 0 0] rfl rfl (World.news_of_block (cs := #[.int .i64 (-1), .slice none 0 0]) (t := 79) (fr := (0, 0)) (heap_alloc_new w _)) (by simp [Value.oneCell']) (by omega) (by have := HCS.out; unfold maxLen; omega) (by have := HCS.out; omega) (by simp) (w.heap.size + 1) (by simp) ?_; intro gg cap1 w2 hown1 hgrow hat hlt; have c3' := cell_grown hgrow ((World.cell?_alloc_lt w _ _ lp).trans c2) HN.out; have f3' := frozen_grown hgrow ((World.cell?_alloc_lt w _ _ lp).trans c2) ((World.frozen?_of_block (Below.heap_alloc w _ p lp)).trans fz) HN.out)
  go_ret
  refine ⟨rfl, ref_of HBX.out HB.out HBS.out HO.out HLS.out HSP.out ((Below.refl _ _).alloc (Nat.le_refl _) _) hgrow hown1 (hat.imp id (fun e => by omega)) (fun _ h => h) (fun j hj e => HSP.out j hj (.inl e)) (fun h => by cases h)⟩
end Go.Proofs.Ytpfdlcogldbocaa
