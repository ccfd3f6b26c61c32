/-
  Scripts of ropes: the acts among the arguments, rows of ropes and of texts that the call owns, and one more put behind each. Conditions: the package's ropes stay when another row turns (RopeFar).
-/
import Derived.Test.YtfibclaojdoonaaRfar
import Derived.Test.YtfibclaojdoonaaRargs
namespace Go.Proofs.Ytfibclaojdoonaa
open Go.RowKit Go.Deep Go.ChangeShapes Go.WideShapes Go.Maps

/-! ### rows of ropes -/
def ptrsV (ps : List (Option Addr)) : List Value := ps.map Value.pointer
theorem length_ptrsV (ps : List (Option Addr)) : (ptrsV ps).length = ps.length := by simp [ptrsV]
set_option maxRecDepth 100000 in
theorem info_ptr : (Try.prog.info? 28).map (fun i => (i.zero, i.size, i.bytes)) = some (some (.pointer none), 1, 8) := by kernel_rfl
def PtrsOwn (w : World) (base : Nat) (v : Value) (ps : List (Option Addr)) : Prop := w.ownsRow base 28 1 v ps.length (ptrsV ps)
theorem PtrsOwn.turned {w w' : World} {base : Nat} {v : Value} {ps : List (Option Addr)} {T : Nat → Prop} (h : PtrsOwn w base v ps) (ht : Turned T w w') (hT : ∀ k, v.ownBlock = some k → ¬ T k) : PtrsOwn w' base v ps := ownsRow_turned h ht hT
theorem PtrsOwn.below {w w' : World} {base : Nat} {v : Value} {ps : List (Option Addr)} (h : PtrsOwn w base v ps) (hb : Below w.heap.size w w') : PtrsOwn w' base v ps := h.turned (Turned.of_below (S := fun _ => False) hb) (fun _ _ h => h)
theorem PtrsOwn.lt {w : World} {base : Nat} {v : Value} {ps : List (Option Addr)} (h : PtrsOwn w base v ps) : ∀ k, v.ownBlock = some k → base ≤ k ∧ k < w.heap.size := fun k hk => World.ownsRow.lt h k hk
/-- The type of an own row's block. -/
theorem ownsRow_type {w : World} {base : Nat} {e : TypeId} {size : Nat} {v : Value} {n : Nat} {xs : List Value} (h : w.ownsRow base e size v n xs) {k : Nat} (hk : v.ownBlock = some k) : ∃ cs fr, w.heap[k]? = some (.cells cs e fr) := by
  rcases h.2 with ⟨rfl, _⟩ | ⟨g, cap, cur, rfl, _, hg, _⟩
  · simp [Value.ownBlock] at hk
  · simp [Value.ownBlock] at hk
    subst hk
    exact ⟨_, _, hg⟩
theorem PtrsOwn.form {w : World} {base : Nat} {v : Value} {ps : List (Option Addr)} (h : PtrsOwn w base v ps) : ∃ A c, v = .slice A ps.length c ∧ ∀ (i : Nat) (p : Option Addr), ps[i]? = some p → ∃ k, A = some ⟨k, 0, none⟩ ∧ w.cell? ⟨k, i, none⟩ = some (.pointer p) := by
  have h' := h
  rcases h.2 with ⟨e, hn⟩ | ⟨k, cap, cur, e, _⟩
  · have hl : ps = [] := List.eq_nil_of_length_eq_zero hn
    subst hl
    exact ⟨none, 0, e, fun i l hi => by simp at hi⟩
  · subst e
    refine ⟨_, cap, rfl, fun i l hi => ⟨k, rfl, ?_⟩⟩
    have hil := (List.getElem?_eq_some_iff.1 hi).1
    rw [World.ownsRow.cellAt h' i (by omega)]
    simp [ptrsV, hi]
set_option maxRecDepth 100000 in
/-- One rope more, written out ahead of it. -/
theorem wpList_append_ptr {ops : Array Oper} {rest : List Oper} {a : Act} {Q : Exit → Act → World → Prop} {s x : Operand} {ps : String} {af : Array Edge} {w : World} {base : Nat} {v : Value} {rs : List (Option Addr)} (d : Tmp) (p : Option Addr) (hown : PtrsOwn w base v rs)
    (hs : a.eval s = v) (hx : a.eval x = .slice (some ⟨w.heap.size, 0, none⟩) 1 1) (hl : rs.length ≤ 1099511627776) (hbase : base ≤ w.heap.size)
    (h : ∀ v' w', PtrsOwn w' base v' (rs ++ [p]) → Turned (fun j => v.ownBlock = some j) w w' → wpList Try.prog ops Q rest (a.put (some d) v') w') :
    wpList Try.prog ops Q ({ dst := some d, op := .call { callee := .builtin .append, args := #[s, x], argTypes := #[23, 23] }, type := 23, pos := ps, after := af, guard := none } :: rest) a (w.alloc (.cells #[.pointer p] 28)) := by
  obtain ⟨i, hi, hz, hsz, hby⟩ := info_parts info_ptr
  obtain ⟨gg, cc, w', hap, hown', hgrow, _, _⟩ := run_append_lies (P := Try.prog) (w.alloc (.cells #[.pointer p] 28)) 23 23 base 28 i _ 1 8 Try.underlying23 hi hz hsz hby (by rfl) (by omega) v rs.length (ptrsV rs) (World.ownsRow.alloc hown _) ⟨w.heap.size, 0, none⟩ 1 1 [.pointer p] rfl
    (fun j u hu => by
      have hj : j = 0 := by have := (List.getElem?_eq_some_iff.1 hu).1; simp at this; omega
      subst hj
      simp at hu
      subst hu
      rw [Addr.add_mid, World.cell?_alloc_mark]
      rfl) (by intro u hu; simp at hu; subst hu; rfl) (by omega) (by unfold maxLen; omega) (by omega) (by simp; omega) _ rfl
  refine wpList_append_to d hap hs hx (h _ w' ?_ ?_)
  · unfold PtrsOwn
    rw [List.length_append]
    have e : ptrsV (rs ++ [p]) = ptrsV rs ++ [.pointer p] := by simp [ptrsV]
    rw [e]
    exact hown'
  · exact (Turned.of_below (S := fun j => v.ownBlock = some j) ((Below.refl w.heap.size w).alloc (Nat.le_refl _) _)).trans (Turned.of_grown (S := fun j => v.ownBlock = some j) hgrow (fun k hk => hk)) (fun _ _ h => h)

/-! ### the script's state -/
structure PlSt (R : World → Option Addr → List UInt8 → Prop) (w : World) (v5 v6 : Value) (ps : List (Option Addr)) (ls : List (List UInt8)) (W : World) : Prop where
  ropes : PtrsOwn W w.heap.size v5 ps
  texts : StrsOwn W w.heap.size v6 ls
  len : ps.length = ls.length
  pos : 0 < ps.length
  all : ∀ (i : Nat) p l, ps[i]? = some p → ls[i]? = some l → R W p l
  below : Below w.heap.size w W
/-- .. between the two rows. -/
structure PlHalf (R : World → Option Addr → List UInt8 → Prop) (w : World) (v5 v6 : Value) (ps : List (Option Addr)) (ls : List (List UInt8)) (l : List UInt8) (W : World) : Prop where
  ropes : PtrsOwn W w.heap.size v5 ps
  texts : StrsOwn W w.heap.size v6 ls
  len : ps.length = (ls ++ [l]).length
  all : ∀ (i : Nat) p x, ps[i]? = some p → (ls ++ [l])[i]? = some x → R W p x
  below : Below w.heap.size w W
section
variable {R : World → Option Addr → List UInt8 → Prop} {w W W' : World} {v5 v6 v5' v6' : Value} {ps : List (Option Addr)} {ls : List (List UInt8)} {p : Option Addr} {l : List UInt8}
theorem PlSt.later (K : RopeApi R) (h : PlSt R w v5 v6 ps ls W) (hb : Below W.heap.size W W') : PlSt R w v5 v6 ps ls W' :=
  ⟨h.ropes.below hb, h.texts.below hb, h.len, h.pos, fun i p l hp hl => K.below (h.all i p l hp hl) hb, h.below.trans (hb.mono h.below.size)⟩
theorem own_apart (h5 : PtrsOwn W w.heap.size v5 ps) (h6 : StrsOwn W w.heap.size v6 ls) : ∀ k, v6.ownBlock = some k → ¬ v5.ownBlock = some k := by
  intro k h e
  obtain ⟨cs, fr, hc⟩ := ownsRow_type h5 e
  obtain ⟨cs2, fr2, hc2⟩ := ownsRow_type h6 h
  rw [hc] at hc2
  injection hc2 with hc2
  injection hc2 with _ e _
  exact absurd e (by decide)
theorem far_ropes (h5 : PtrsOwn W w.heap.size v5 ps) : ∀ k, v5.ownBlock = some k → ∀ cs fr, W.heap[k]? = some (.cells cs 60 fr) → False := by
  intro k e cs fr hc
  obtain ⟨cs2, fr2, hc2⟩ := ownsRow_type h5 e
  rw [hc] at hc2
  injection hc2 with hc2
  injection hc2 with _ e _
  exact absurd e (by decide)
theorem far_texts (h6 : StrsOwn W w.heap.size v6 ls) : ∀ k, v6.ownBlock = some k → ∀ cs fr, W.heap[k]? = some (.cells cs 60 fr) → False := by
  intro k e cs fr hc
  obtain ⟨cs2, fr2, hc2⟩ := ownsRow_type h6 e
  rw [hc] at hc2
  injection hc2 with hc2
  injection hc2 with _ e _
  exact absurd e (by decide)
theorem PlSt.half (F : RopeFar R) (h : PlSt R w v5 v6 ps ls W) (hr : R W p l) (ho : PtrsOwn W' w.heap.size v5' (ps ++ [p])) (ht : Turned (fun j => v5.ownBlock = some j) W W') : PlHalf R w v5' v6 (ps ++ [p]) ls l W' := by
  refine ⟨ho, h.texts.turned ht (own_apart h.ropes h.texts), by rw [List.length_append, List.length_append, h.len]; rfl, fun i q x hq hx => ?_, h.below.trans (ht.below h.below.size (fun k hk => (h.ropes.lt k hk).1))⟩
  by_cases hi : i < ps.length
  · rw [List.getElem?_append_left hi] at hq
    rw [List.getElem?_append_left (by rw [← h.len]; exact hi)] at hx
    exact F.far (h.all i q x hq hx) ht (far_ropes h.ropes)
  · rw [List.getElem?_append_right (by omega)] at hq
    rw [List.getElem?_append_right (by rw [← h.len]; omega), ← h.len] at hx
    by_cases hi2 : i - ps.length = 0
    · rw [hi2] at hq hx
      simp at hq hx
      subst hq
      subst hx
      exact F.far hr ht (far_ropes h.ropes)
    · rw [List.getElem?_eq_none (by simp; omega)] at hq
      cases hq
theorem PlHalf.whole (F : RopeFar R) (h : PlHalf R w v5 v6 ps ls l W) (ho : StrsOwn W' w.heap.size v6' (ls ++ [l])) (ht : Turned (fun j => v6.ownBlock = some j) W W') : PlSt R w v5 v6' ps (ls ++ [l]) W' :=
  ⟨h.ropes.turned ht (fun k hk e => own_apart h.ropes h.texts k e hk), ho, h.len, by rw [h.len]; simp, fun i q x hq hx => F.far (h.all i q x hq hx) ht (far_texts h.texts), h.below.trans (ht.below h.below.size (fun k hk => (h.texts.lt k hk).1))⟩
theorem PlSt.start (K : RopeApi R) (w : World) : PlSt R w (.slice (some ⟨w.heap.size, 0, none⟩) 1 1) (.slice (some ⟨w.heap.size + 1, 0, none⟩) 1 1) [none] [[]] ((w.alloc (.cells #[.pointer none] 28)).alloc (.cells #[.string ⟨#[]⟩] 9)) := by
  have h1 := heap_alloc_new w (.cells #[.pointer none] 28)
  have h2 := heap_alloc_new (w.alloc (.cells #[.pointer none] 28)) (.cells #[.string ⟨#[]⟩] 9)
  simp only [World.size_alloc] at h2
  have h1' := Below.obj ((Below.refl _ _).alloc (Nat.le_refl _) (.cells #[.string ⟨#[]⟩] 9)) h1 (lt_of_some h1)
  refine ⟨⟨rfl, .inr ⟨w.heap.size, 1, _, rfl, Nat.le_refl _, h1', Nat.le_refl _, by unfold maxLen; omega, rfl, rfl⟩⟩, ⟨rfl, .inr ⟨w.heap.size + 1, 1, _, rfl, by omega, h2, Nat.le_refl _, by unfold maxLen; omega, rfl, rfl⟩⟩, rfl, by simp, ?_, ((Below.refl _ w).alloc (Nat.le_refl _) _).alloc (by simp) _⟩
  intro i p l hp hl
  by_cases hi : i = 0
  · subst hi
    simp at hp hl
    subst hp
    subst hl
    exact K.nil _
  · rw [List.getElem?_eq_none (by simp; omega)] at hp
    cases hp
end

/-! ### the acts -/
structure ActM where
  kind : Int
  i : Int
  j : Int
  from_ : Int
  to_ : Int
  s : ByteArray
instance : Inhabited ActM := ⟨⟨0, 0, 0, 0, 0, ⟨#[]⟩⟩⟩
def ActM.cells (o : ActM) : List Value := [.int .i64 o.kind, .int .i64 o.i, .int .i64 o.j, .int .i64 o.from_, .int .i64 o.to_, .string o.s]
def ActM.good (o : ActM) : Prop := (Lit.int .i64 o.kind).wf = true ∧ (Lit.int .i64 o.i).wf = true ∧ (Lit.int .i64 o.j).wf = true ∧ (Lit.int .i64 o.from_).wf = true ∧ (Lit.int .i64 o.to_).wf = true ∧ o.s.size ≤ maxLen
def ActsAt (w : World) (S : Option Addr) (os : List ActM) : Prop := ∀ i o, os[i]? = some o → o.good ∧ ∃ g off, S = some ⟨g, off, none⟩ ∧ w.rangeAt g (off + i * 6) o.cells
section
variable {H : Type} {enc : TypeId × Value → H} {w : World} {base : Nat} {held : Bool}
theorem cells_act : Try.prog.cellsOf 26 = 6 := by kernel_rfl
set_option maxRecDepth 100000 in
theorem open_act {fuel : Nat} {cs : List Value} {x : DataW H × List MemPlace} (h : DataW.trod enc Try.prog w base (fun _ => true) held fuel 26 cs = some x) : ∃ o : ActM, cs = o.cells ∧ o.good := by
  obtain ⟨xs, n, _, _, hl, hx, hf⟩ := DataW.trod_struct Try.underlying26 h
  rw [cells_act] at hl
  match cs, hl with
  | [c0, c1, c2, c3, c4, c5], _ =>
    match xs, hx with
    | [x0, x1, x2, x3, x4, x5], _ =>
      have f0 : DataW.trod enc Try.prog w base (fun _ => true) held n 3 (([c0, c1, c2, c3, c4, c5].drop 0).take (Try.prog.cellsOf 3)) = some x0 := hf 0 _ rfl
      rw [cells_int] at f0
      have f1 : DataW.trod enc Try.prog w base (fun _ => true) held n 3 (([c0, c1, c2, c3, c4, c5].drop 1).take (Try.prog.cellsOf 3)) = some x1 := hf 1 _ rfl
      rw [cells_int] at f1
      have f2 : DataW.trod enc Try.prog w base (fun _ => true) held n 3 (([c0, c1, c2, c3, c4, c5].drop 2).take (Try.prog.cellsOf 3)) = some x2 := hf 2 _ rfl
      rw [cells_int] at f2
      have f3 : DataW.trod enc Try.prog w base (fun _ => true) held n 3 (([c0, c1, c2, c3, c4, c5].drop 3).take (Try.prog.cellsOf 3)) = some x3 := hf 3 _ rfl
      rw [cells_int] at f3
      have f4 : DataW.trod enc Try.prog w base (fun _ => true) held n 3 (([c0, c1, c2, c3, c4, c5].drop 4).take (Try.prog.cellsOf 3)) = some x4 := hf 4 _ rfl
      rw [cells_int] at f4
      have f5 : DataW.trod enc Try.prog w base (fun _ => true) held n 9 (([c0, c1, c2, c3, c4, c5].drop 5).take (Try.prog.cellsOf 9)) = some x5 := hf 5 _ rfl
      rw [cells_string] at f5
      obtain ⟨k0, rfl, w0⟩ := open_num (x := x0) f0
      obtain ⟨k1, rfl, w1⟩ := open_num (x := x1) f1
      obtain ⟨k2, rfl, w2⟩ := open_num (x := x2) f2
      obtain ⟨k3, rfl, w3⟩ := open_num (x := x3) f3
      obtain ⟨k4, rfl, w4⟩ := open_num (x := x4) f4
      obtain ⟨s, rfl, ws⟩ := open_txt (x := x5) f5
      exact ⟨⟨k0, k1, k2, k3, k4, s⟩, rfl, w0, w1, w2, w3, w4, ws⟩
/-- An address that a cell is read at names no spot. -/
theorem plain_addr {a : Addr} {i : Nat} {v : Value} (h : ∀ j, j ≤ i → (w.cell? (a.add j)).isSome = true) (hv : w.cell? (a.add i) = some v) : ∃ g o, a = ⟨g, o, none⟩ ∧ w.cell? ⟨g, o + i, none⟩ = some v := by
  obtain ⟨g, o, sp⟩ := a
  have h0 := h 0 (Nat.zero_le _)
  have e0 : (⟨g, o, sp⟩ : Addr).add 0 = ⟨g, o, sp⟩ := rfl
  rw [e0] at h0
  cases sp with
  | none =>
    rw [Addr.add_mid] at hv
    exact ⟨g, o, rfl, hv⟩
  | some s =>
    unfold World.cell? at h0
    split at h0 <;> simp at h0
set_option maxRecDepth 100000 in
theorem open_acts {r : Reach} {b0 : Nat} {v : Value} {d : DataW H} {p : List MemPlace} (hv : Value.okWide Try.prog w r b0 22 v) (h : DataW.Trod enc Try.prog w base (fun _ => true) held 22 v d p) :
    ∃ S os cap, v = .slice S os.length cap ∧ ActsAt w S os ∧ os.length ≤ maxLen := by
  obtain ⟨a0, len0, cap0, rfl⟩ := okWide_slice Try.underlying22 hv
  obtain ⟨fuel, hf⟩ := h
  rcases open_slice Try.underlying22 hf with ⟨hcs, _⟩ | ⟨a, len, cap, m, n, D, Pl, hcs, _, hl, hm, hmm, _, hi⟩
  · refine ⟨none, [], 0, by simpa [Value.cells] using hcs, fun i o ho => by simp at ho, by unfold maxLen; simp⟩
  · have hmm2 : m = cap := by simpa using hmm
    subst hmm2
    clear hmm
    rw [cells_act] at hi
    have key : ∀ i, i < m → ∃ o : ActM, o.good ∧ w.cells? base (a.add (i * 6)) 6 = some o.cells := fun i him => by
      obtain ⟨cs, h1, h2⟩ := hi i him
      obtain ⟨o, rfl, hg⟩ := open_act h2
      exact ⟨o, hg, h1⟩
    obtain ⟨F, hF⟩ := choose_lt key
    have hv : Value.slice a0 len0 cap0 = .slice (some a) len m := by simpa [Value.cells] using hcs
    refine ⟨some a, (List.range len).map F, m, by rw [hv]; simp, ?_, by simp; omega⟩
    intro i o ho
    rw [List.getElem?_map] at ho
    by_cases hil : i < len
    · rw [List.getElem?_range hil] at ho
      simp only [Option.map_some, Option.some.injEq] at ho
      obtain ⟨hg, hc⟩ := hF i (by omega)
      rw [ho] at hg hc
      obtain ⟨_, hcl, hat⟩ := World.cells?_some hc
      obtain ⟨_, _, hat0⟩ := World.cells?_some (hF 0 (by omega)).2
      have h00 := hat0 (i := 0) (by omega)
      obtain ⟨g, off, ha, _⟩ := plain_addr (w := w) (a := a) (i := 0) (v := .int .i64 (F 0).kind) (fun j hj => by
        obtain rfl : j = 0 := by omega
        have : w.cell? ((a.add (0 * 6)).add 0) = _ := h00
        simp only [Nat.zero_mul] at this
        have e0 : (a.add 0).add 0 = a.add 0 := rfl
        rw [e0] at this
        rw [this]; rfl) (by
        have : w.cell? ((a.add (0 * 6)).add 0) = _ := h00
        simp only [Nat.zero_mul] at this
        exact this)
      subst ha
      refine ⟨hg, g, off, rfl, fun j u hu => ?_⟩
      have hj : j < 6 := by have := (List.getElem?_eq_some_iff.1 hu).1; simpa [ActM.cells] using this
      have := hat (i := j) hj
      rw [Addr.add_mid, Addr.add_mid] at this
      rw [this, hu]
    · rw [List.getElem?_eq_none (by simp; omega)] at ho
      cases ho
end
end Go.Proofs.Ytfibclaojdoonaa
