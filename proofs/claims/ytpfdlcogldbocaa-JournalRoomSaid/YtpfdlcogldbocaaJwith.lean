/-
  Calls that write in a region alone, and what a disk contains elsewhere. No condition.
  Rows of numbers that the call owns, and one more put behind; what was synced ahead of a number of calls. Condition: those named at each fact.
-/
import Derived.Test.YtpfdlcogldbocaaJnil
import Derived.Test.YtpfdlcogldbocaaLink
namespace Go.Proofs.Ytpfdlcogldbocaa
open Go.RowKit Go.Deep Go.Maps

def Within (f k : Nat) (cs : List CallM) : Prop := ∀ c ∈ cs, c.sync = false → (f : Int) ≤ c.n ∧ c.n < ((f + k : Nat) : Int)
theorem Within.nil (f k : Nat) : Within f k [] := fun c h => by cases h
theorem Within.append {f k : Nat} {a b : List CallM} (ha : Within f k a) (hb : Within f k b) : Within f k (a ++ b) := fun c h hs => (List.mem_append.1 h).elim (fun h => ha c h hs) (fun h => hb c h hs)
theorem Within.sync (f k : Nat) : Within f k [syncM] := fun c h hs => by
  rw [List.mem_singleton] at h
  subst h
  cases hs
theorem within_zto {C : Int → List UInt8} (h : All32 C) {f k n : Nat} (hf : f + k ≤ 65536) : Within f k (zto C f k n k) := fun c hc _ => (zto_ok h hf k (Nat.le_refl _) c hc).2.2
theorem within_open {C : Int → List UInt8} (h : All32 C) {f k n : Nat} (hf : f + k ≤ 65536) {cs : List CallM} (hc : Within f k cs) : Within f k (openCs C cs f k n) := by
  unfold openCs
  split
  · exact hc
  · exact (hc.append (within_zto h hf)).append (Within.sync f k)
theorem within_wto {next : List UInt8} {f b0 k j : Nat} (hf : f + k ≤ 65536) (hl : next.length = 32 * k) (hj : b0 + j ≤ k) : Within f k (wto next f b0 j) := fun c hc _ => (wto_ok hf hl j hj c hc).2.2

theorem layTo_out {F : Int → Option (List UInt8)} {cs : List CallM} {size : Nat → Nat} {x : Int} (h : ∀ c ∈ cs, c.sync = false → c.n ≠ x) : ∀ k, k ≤ cs.length → layTo F cs size k x = F x
  | 0, _ => rfl
  | k + 1, hk => by
    have ih := layTo_out (F := F) (size := size) h k (by omega)
    have hcm : cs.getD k syncM ∈ cs := by
      rw [List.getD_eq_getElem?_getD, List.getElem?_eq_getElem (by omega)]
      exact List.getElem_mem _
    unfold layTo laid
    cases hsy : (cs.getD k syncM).sync with
    | true => exact ih
    | false =>
      rw [if_neg (by simp), upd_other _ _ _ (fun e => h _ hcm hsy e.symm)]
      exact ih
theorem con_out {F : Int → Option (List UInt8)} {f k : Nat} {cs : List CallM} (h : Within f k cs) {x : Int} (hx : x < (f : Int) ∨ ((f + k : Nat) : Int) ≤ x) : con F cs x = (F x).getD zero32 := by
  unfold con
  rw [layTo_out (fun c hc hs e => by have := h c hc hs; omega) cs.length (Nat.le_refl _)]
/-- A region of noughts on a disk that began with noughts. -/
theorem con_zero {f k : Nat} {cs : List CallM} (hc : ∀ c ∈ cs, c.ok) (h : Within f k cs) (hr : reg (con (fun _ => none) cs) f k = List.replicate (32 * k) 0) (x : Int) : con (fun _ => none) cs x = zero32 := by
  by_cases hx : x < (f : Int) ∨ ((f + k : Nat) : Int) ≤ x
  · rw [con_out h hx]
    rfl
  · have h32 := con_all32 none32 hc
    have e : x = ((f + (x.toNat - f) : Nat) : Int) := by omega
    have hb := reg_block h32 f k (x.toNat - f) (by omega)
    rw [hr, ← e] at hb
    rw [← hb, List.drop_replicate, List.take_replicate, show min 32 (32 * k - 32 * (x.toNat - f)) = 32 by omega]
    rfl
end Go.Proofs.Ytpfdlcogldbocaa

namespace Go.Proofs.Ytpfdlcogldbocaa
open Go.RowKit Go.Deep Go.Maps

def intsV (l : List Nat) : List Value := l.map fun (n : Nat) => Value.int .i64 (n : Int)
theorem length_intsV (l : List Nat) : (intsV l).length = l.length := by simp [intsV]
def IntsOwn (w : World) (base : Nat) (v : Value) (l : List Nat) : Prop := w.ownsRow base 3 1 v l.length (intsV l)
set_option maxRecDepth 100000 in
theorem info_i64 : (Try.prog.info? 3).map (fun i => (i.zero, i.size, i.bytes)) = some (some (.int .i64 0), 1, 8) := by kernel_rfl

theorem IntsOwn.turned {w w' : World} {base : Nat} {v : Value} {l : List Nat} {T : Nat → Prop} (h : IntsOwn w base v l) (ht : Turned T w w') (hT : ∀ k, v.ownBlock = some k → ¬ T k) : IntsOwn w' base v l := ownsRow_turned h ht hT
theorem IntsOwn.below {w w' : World} {base : Nat} {v : Value} {l : List Nat} (h : IntsOwn w base v l) (hb : Below w.heap.size w w') : IntsOwn w' base v l := h.turned (Turned.of_below (S := fun _ => False) hb) (fun _ _ h => h)
theorem IntsOwn.lt {w : World} {base : Nat} {v : Value} {l : List Nat} (h : IntsOwn w base v l) : ∀ k, v.ownBlock = some k → base ≤ k ∧ k < w.heap.size := fun k hk => World.ownsRow.lt h k hk
/-- A row that has numbers, as it lies. -/
theorem IntsOwn.form {w : World} {base : Nat} {v : Value} {l : List Nat} (h : IntsOwn w base v l) (hl : 0 < l.length) : ∃ k c, v = .slice (some ⟨k, 0, none⟩) l.length c ∧ v.ownBlock = some k ∧ ∀ (i n : Nat), l[i]? = some n → w.cell? ⟨k, i, none⟩ = some (.int .i64 (n : Int)) := by
  have h' := h
  rcases h.2 with ⟨_, hn⟩ | ⟨k, cap, cur, e, _⟩
  · omega
  · subst e
    refine ⟨k, cap, rfl, rfl, fun i n hi => ?_⟩
    have hil := (List.getElem?_eq_some_iff.1 hi).1
    rw [World.ownsRow.cellAt h' i (by omega)]
    simp [intsV, hi]
theorem IntsOwn.lit (w : World) (n base : Nat) (hb : base ≤ w.heap.size) : IntsOwn (w.alloc (.cells #[.int .i64 (n : Int)] 3)) base (.slice (some ⟨w.heap.size, 0, none⟩) 1 1) [n] :=
  World.ownsRow_lit (base := base) (e := 3) (size := 1) w #[.int .i64 (n : Int)] 1 hb (by unfold maxLen; omega) rfl

set_option maxRecDepth 100000 in
/-- One number more, written out ahead of it. -/
theorem wpList_append_int {ops : Array Oper} {rest : List Oper} {a : Act} {Q : Exit → Act → World → Prop} {s x : Operand} {ps : String} {af : Array Edge} {w : World} {base : Nat} {v : Value} {l : List Nat} (d : Tmp) (n : Nat) (hown : IntsOwn w base v l)
    (hs : a.eval s = v) (hx : a.eval x = .slice (some ⟨w.heap.size, 0, none⟩) 1 1) (hl : l.length ≤ 1099511627776) (hbase : base ≤ w.heap.size)
    (h : ∀ v' w', IntsOwn w' base v' (l ++ [n]) → Turned (fun j => v.ownBlock = some j) w w' → (∀ k, v'.ownBlock = some k → v.ownBlock = some k ∨ w.heap.size ≤ k) → wpList Try.prog ops Q rest (a.put (some d) v') w') :
    wpList Try.prog ops Q ({ dst := some d, op := .call { callee := .builtin .append, args := #[s, x], argTypes := #[62, 62] }, type := 62, pos := ps, after := af, guard := none } :: rest) a (w.alloc (.cells #[.int .i64 (n : Int)] 3)) := by
  obtain ⟨i, hi, hz, hsz, hby⟩ := info_parts info_i64
  obtain ⟨gg, cc, w', hap, hown', hgrow, hat, _⟩ := run_append_lies (P := Try.prog) (w.alloc (.cells #[.int .i64 (n : Int)] 3)) 62 62 base 3 i _ 1 8 Try.underlying62 hi hz hsz hby (by rfl) (by omega) v l.length (intsV l) (World.ownsRow.alloc hown _) ⟨w.heap.size, 0, none⟩ 1 1 [.int .i64 (n : Int)] rfl
    (fun j u hu => by
      have hj : j = 0 := by have := (List.getElem?_eq_some_iff.1 hu).1; simp at this; omega
      subst hj
      simp at hu
      subst hu
      rw [Addr.add_mid, World.cell?_alloc_mark]
      rfl) (by intro u hu; simp at hu; subst hu; rfl) (by omega) (by unfold maxLen; omega) (by omega) (by simp; omega) _ rfl
  refine wpList_append_to d hap hs hx (h _ w' ?_ ?_ ?_)
  · unfold IntsOwn
    rw [List.length_append]
    have e : intsV (l ++ [n]) = intsV l ++ [.int .i64 (n : Int)] := by simp [intsV]
    rw [e]
    exact hown'
  · exact (Turned.of_below (S := fun j => v.ownBlock = some j) ((Below.refl w.heap.size w).alloc (Nat.le_refl _) _)).trans (Turned.of_grown (S := fun j => v.ownBlock = some j) hgrow (fun k hk => hk)) (fun _ _ h => h)
  · intro k hk
    have e : some gg = some k := hk
    injection e with e
    subst e
    rcases hat with hat | hat
    · exact .inl hat
    · right
      rw [hat]
      simp

/-! ### what was synced ahead of c calls -/
def Sured (cs : List CallM) (rs : List Nat) (c s : Nat) : Prop := s = 0 ∨ ∃ (t : Nat) (x : CallM), t < c ∧ cs[t]? = some x ∧ x.sync = true ∧ rs[t]? = some s
theorem Sured.more {cs : List CallM} {rs : List Nat} {c s : Nat} (h : Sured cs rs c s) (ds : List CallM) (qs : List Nat) {c' : Nat} (hc : c ≤ c') : Sured (cs ++ ds) (rs ++ qs) c' s := by
  rcases h with h | ⟨t, x, h1, h2, h3, h4⟩
  · exact .inl h
  · exact .inr ⟨t, x, by omega, by rw [List.getElem?_append_left (List.getElem?_eq_some_iff.1 h2).1]; exact h2, h3, by rw [List.getElem?_append_left (List.getElem?_eq_some_iff.1 h4).1]; exact h4⟩
theorem Sured.later {cs : List CallM} {rs : List Nat} {c s : Nat} (h : Sured cs rs c s) {c' : Nat} (hc : c ≤ c') : Sured cs rs c' s := by
  have := h.more [] [] hc
  simpa using this
theorem Sured.now {cs : List CallM} {rs : List Nat} (hl : rs.length = cs.length) (s : Nat) : Sured (cs ++ [syncM]) (rs ++ [s]) (cs ++ [syncM]).length s :=
  .inr ⟨cs.length, syncM, by simp, by simp, rfl, by rw [← hl]; simp⟩
/-- .. is what was whole at the last Sync, or less. -/
theorem Sured.least {F : Int → Option (List UInt8)} {f k : Nat} {cs : List CallM} {ls : List (List UInt8)} {rs : List Nat} (hh : Hist F f k cs ls rs) {a κ L : Nat} (h : Sured cs rs a L) (hs : SyncAt (cs.take a) κ) : ∃ s, (κ = 0 → s = 0) ∧ (0 < κ → rs[κ - 1]? = some s) ∧ L ≤ s := by
  have hk := hs.1
  rw [List.length_take] at hk
  by_cases h0 : κ = 0
  · refine ⟨0, fun _ => rfl, fun h => by omega, ?_⟩
    rcases h with h | ⟨t, x, h1, h2, h3, h4⟩
    · omega
    · exfalso
      have := hs.2.1 t x (by omega) (by rw [List.getElem?_take, if_pos h1]; exact h2)
      rw [h3] at this
      cases this
  · obtain ⟨s, hs1⟩ : ∃ s, rs[κ - 1]? = some s := ⟨_, List.getElem?_eq_getElem (by rw [hh.len]; omega)⟩
    refine ⟨s, fun h => absurd h h0, fun _ => hs1, ?_⟩
    rcases h with h | ⟨t, x, h1, h2, h3, h4⟩
    · omega
    · refine hh.rise t (κ - 1) L s ?_ h4 hs1
      apply Classical.byContradiction
      intro hn
      have := hs.2.1 t x (by omega) (by rw [List.getElem?_take, if_pos h1]; exact h2)
      rw [h3] at this
      cases this
theorem red_self (a m : Nat) (h : a < m) : red (a : Int) m = a := by
  unfold red
  rw [if_neg (by omega)]
  simp
  exact Nat.mod_eq_of_lt h
theorem BoolsAt.below {w w' : World} {A : Option Addr} {ks : List Bool} (h : BoolsAt w A ks) (hb : Below w.heap.size w w') : BoolsAt w' A ks := fun i b hi => by
  obtain ⟨g, o, e, hc⟩ := h i b hi
  exact ⟨g, o, e, (hb.cell (p := ⟨g, o + i, none⟩) (World.block_lt_of_cell? w _ hc)).trans hc⟩
end Go.Proofs.Ytpfdlcogldbocaa
