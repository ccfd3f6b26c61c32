import Derived.Test.YtcbgbicdfpkikaaGreatDoorK27
import Derived.Test.YtcbgbicdfpkikaaGreatDoorK24
import Derived.Deep.WholeRow
/-
  The live question of package match. Conditions: the world holds what strings.Index asks, and the table of de Bruijn's numbers.
-/
namespace Go.Proofs.YtcbgbicdfpkikaaGreatDoor
open Go.RowKit Go.Deep Go.Sort
theorem wpList_mat_store {ops : Array Oper} {rest : List Oper} {o : Oper} {a : Act} {w : World} {Q : Exit → Act → World → Prop} (hgd : o.guard = none) (x y : Operand) (ho : o.op = .store 34 x y) (sp : Sp) (hx : a.eval x = .pointer (some ⟨w.heap.size, 0, none⟩)) (hy : a.eval y = .agg (spC sp))
    (h : wpList Tryz.prog ops Q rest (a.put o.dst undef) (w.alloc (.cells (spC sp) 34))) : wpList Tryz.prog ops Q (o :: rest) a (w.alloc (.cells #[.int .i64 0, .int .i64 0, .int .i64 0, .int .i64 0, .int .i64 0, .int .i64 0, .int .i64 0, .int .i64 0, .int .i64 0, .int .i64 0, .int .i64 0, .int .i64 0, .int .i64 0, .int .i64 0, .int .i64 0, .int .i64 0, .int .i64 0, .int .i64 0, .int .i64 0, .int .i64 0] 34)) := by
  refine wpList_store_row hgd 34 x y ho w.heap.size (spC sp) hx hy 34 _ (heap_alloc_new w _) (by kernel_rfl) rfl (spC_one sp) ?_
  rw [World.setRow_alloc_new]
  exact h
def litN (c : Nat) : PN := .mk 1 (withS noS c c) 0 0 0 []
def rowN (ks : List PN) : PN := .mk 2 noS 0 0 0 ks
def altN (ks : List PN) : PN := .mk 3 noS 0 0 0 ks
def repN (lo hi : Int) (t : PN) : PN := .mk 4 noS lo hi 0 [t]
def grpN (n : Int) (t : PN) : PN := .mk 5 noS 0 0 n [t]
def liveT : PN := rowN [grpN 1 (altN [litN 97, rowN [litN 97, litN 98]]), grpN 2 (altN [litN 99, rowN [litN 98, litN 99, litN 100]]), grpN 3 (repN 0 (-1) (litN 100))]
set_option maxRecDepth 100000 in
theorem live_parse (bk : BkF) : parseP bk true [40, 97, 124, 97, 98, 41, 40, 99, 124, 98, 99, 100, 41, 40, 100, 42, 41] = some liveT := by kernel_rfl
def liveX : List UInt8 := [120, 97, 98, 99, 100]
set_option maxRecDepth 100000 in
theorem live_15 : semT liveX true liveT 1 5 = true := by kernel_rfl
set_option maxRecDepth 100000 in
theorem live_0 : (List.range 6).all (fun j => !semT liveX true liveT 0 j) = true := by kernel_rfl
set_option maxRecDepth 100000 in
theorem live_ev : spM (evT liveX true liveT) 1 5 0 = (1, 5) ∧ spM (evT liveX true liveT) 1 5 1 = (1, 3) ∧ spM (evT liveX true liveT) 1 5 3 = (4, 5) := ⟨by kernel_rfl, by kernel_rfl, by kernel_rfl⟩
theorem live_find {ok : Bool} {sp : Sp} (h : FindR liveX true liveT 0 ok sp) : ok = true ∧ sp 0 = (1, 5) ∧ sp 1 = (1, 3) ∧ sp 3 = (4, 5) := by
  rcases h with ⟨_, _, h⟩ | ⟨rfl, _, _, i, z, _, hz, hiz, hl, hg, rfl⟩
  · exfalso
    rcases h with h | h | h | h
    · omega
    · simp [liveX] at h
    · simp [liveX] at h
    · have := h 1 5 (by omega) (by decide)
      rw [live_15] at this
      cases this
  · have hz5 : z ≤ 5 := hz
    have hi : i = 1 := by
      rcases Nat.lt_or_ge 1 i with e | e
      · have := hl 1 5 (by omega) e
        rw [live_15] at this
        cases this
      · rcases Nat.eq_zero_or_pos i with e0 | e0
        · subst e0
          have := List.all_eq_true.1 live_0 z (List.mem_range.2 (by omega))
          rw [hiz] at this
          cases this
        · omega
    subst hi
    have hz1 : z = 5 := by
      rcases Nat.lt_or_ge z 5 with e | e
      · have := hg 5 e
        rw [live_15] at this
        cases this
      · omega
    subst hz1
    exact ⟨rfl, live_ev⟩
set_option maxRecDepth 100000 in
set_option maxHeartbeats 1000000 in
theorem alive10_is (w : World) (hM : MaxAt w) (hD : DebAt w) : Calls Tryz.prog 15 #[] w (TrueC w) := by
  have h := parse_of ⟨#[40, 97, 124, 97, 98, 41, 40, 99, 124, 98, 99, 100, 41, 40, 100, 42, 41]⟩ true w hM
  rw [show parseP bkOf true (⟨#[40, 97, 124, 97, 98, 41, 40, 99, 124, 98, 99, 100, 41, 40, 100, 42, 41]⟩ : ByteArray).data.toList = some liveT from live_parse bkOf] at h
  have HP := Lib.hid h
  have HD := Lib.hid hD
  clear h hM hD
  go_enter Tryz.func15, Tryz.ntmps15
  go_wp2_with fail
  go_at_call 18
  refine HP.out.mono ?_
  rintro e w1 ⟨y, rfl, hy, hb1⟩
  obtain ⟨W, hW⟩ : ∃ W, W = w1.alloc (.cells #[.int .i64 y.kind, .int .u64 (y.set 0), .int .u64 (y.set 1), .int .u64 (y.set 2), .int .u64 (y.set 3), .int .i64 y.lo, .int .i64 y.hi, .int .i64 y.num, .slice y.A y.n y.c] 28) := ⟨_, rfl⟩
  have hbW : Below w1.heap.size w1 W := by rw [hW]; exact bW w1 _
  have hob : W.heap[w1.heap.size]? = some (.cells #[.int .i64 y.kind, .int .u64 (y.set 0), .int .u64 (y.set 1), .int .u64 (y.set 2), .int .u64 (y.set 3), .int .i64 y.lo, .int .i64 y.hi, .int .i64 y.num, .slice y.A y.n y.c] 28 (0, 0)) := by rw [hW]; exact heap_alloc_new w1 _
  have hbw : Below w.heap.size w W := hb1.trans (hbW.mono hb1.size)
  have HF := Lib.hid (find_is (w := W) (t := liveT) (x := y) (s := ⟨#[120, 97, 98, 99, 100]⟩) true 0 ((hy.stays hbW).weaken fun k h => h.elim) (HD.out.below hbw) (by decide))
  rw [NV.v_eq] at HF ⊢
  have HB := Lib.hid hbw
  obtain ⟨b1, hb1'⟩ : ∃ b, b = w1.heap.size := ⟨_, rfl⟩
  rw [← hb1'] at hob
  obtain ⟨e0, e1, e2, e3, e4, e5, e6, e7, e8⟩ : W.cell? ⟨b1, 0, none⟩ = some (.int .i64 y.kind) ∧ W.cell? ⟨b1, 1, none⟩ = some (.int .u64 (y.set 0)) ∧ W.cell? ⟨b1, 2, none⟩ = some (.int .u64 (y.set 1)) ∧ W.cell? ⟨b1, 3, none⟩ = some (.int .u64 (y.set 2)) ∧ W.cell? ⟨b1, 4, none⟩ = some (.int .u64 (y.set 3)) ∧ W.cell? ⟨b1, 5, none⟩ = some (.int .i64 y.lo) ∧ W.cell? ⟨b1, 6, none⟩ = some (.int .i64 y.hi) ∧ W.cell? ⟨b1, 7, none⟩ = some (.int .i64 y.num) ∧ W.cell? ⟨b1, 8, none⟩ = some (.slice y.A y.n y.c) := by
    refine ⟨?_, ?_, ?_, ?_, ?_, ?_, ?_, ?_, ?_⟩ <;> (rw [obj_cell hob]; rfl)
  clear hy hb1 hbW hbw hob
  go_upto_region 2 with fail
  rw [← hW, ← hb1']
  clear hW hb1'
  go_wp2_with fail
  go_at_call 16
  with_reducible refine HF.out.mono ?_
  rintro e w2 ⟨sp, ok, rfl, hfr, hb2⟩
  obtain ⟨rfl, h0, h1, h3⟩ := live_find hfr
  have HS := Lib.hid (And.intro h0 (And.intro h1 (And.intro h3 hb2)))
  clear hfr h0 h1 h3 hb2
  rename_i hK
  refine hK _ _ ?_
  clear hK
  iterate 4
    refine wpList_plain rfl (fun K2 hK2 => ?_)
    go_simp
    refine hK2 _ _ ?_
    clear hK2 K2
    try simp only [Act.put, List.setIfInBounds_toArray, List.set_cons_zero, List.set_cons_succ]
  refine wpList_mat_store rfl (.tmp 3) (.tmp 12) rfl sp rfl rfl ?_
  obtain ⟨W3, hW3⟩ : ∃ W3, W3 = w2.alloc (.cells (spC sp) 34) := ⟨_, rfl⟩
  obtain ⟨b3, hb3⟩ : ∃ b3, b3 = w2.heap.size := ⟨_, rfl⟩
  have ho3 : W3.heap[b3]? = some (.cells (spC sp) 34 (0, 0)) := by rw [hW3, hb3]; exact heap_alloc_new w2 _
  have hbel : Below w.heap.size w W3 := by
    have h1 := HB.out.trans (HS.out.2.2.2.mono HB.out.size)
    rw [hW3]
    exact h1.trans ((bW w2 _).mono h1.size)
  have k0 : W3.cell? ⟨b3, 0, none⟩ = some (.int .i64 1) := by
    rw [obj_cell ho3, show (1 : Int) = (sp 0).1 from by rw [HS.out.1]]; rfl
  have k1 : W3.cell? ⟨b3, 1, none⟩ = some (.int .i64 5) := by
    rw [obj_cell ho3, show (5 : Int) = (sp 0).2 from by rw [HS.out.1]]; rfl
  have k3 : W3.cell? ⟨b3, 3, none⟩ = some (.int .i64 3) := by
    rw [obj_cell ho3, show (3 : Int) = (sp 1).2 from by rw [HS.out.2.1]]; rfl
  have k6 : W3.cell? ⟨b3, 6, none⟩ = some (.int .i64 4) := by
    rw [obj_cell ho3, show (4 : Int) = (sp 3).1 from by rw [HS.out.2.2.1]]; rfl
  have hl3 := lt_of_some ho3
  have HQ := Lib.hid hbel
  rw [← hW3, ← hb3]
  clear hW3 hb3 ho3 hbel e0 e1 e2 e3 e4 e5 e6 e7 e8
  go_wp2_with fail
  go_ret
  exact ⟨rfl, HQ.out⟩
open Go.RowKit
theorem nod_join {k : Int} (hk : k = 2 ∨ k = 3) (l : List PN) : nodT (joinK k l) ≤ 1 + nodL l := by
  match l with
  | [] => simp [joinK, nodT, hk, nodL]
  | [x] => simp [joinK, nodL]
  | x :: y :: r => simp [joinK, nodT, hk]
theorem nod_rep (n : PN) (l : List Tok) : nodT (repP n l).1 + 4 * (repP n l).2.length ≤ nodT n + 4 * l.length := by
  cases l with
  | nil => exact Nat.le_refl _
  | cons t r =>
    simp only [repP]
    split
    · simp only [nodT, nodH, List.length_cons]
      simp
      omega
    · exact Nat.le_refl _
theorem headK_ne {l : List Tok} {k : Int} (h : headK l = k) (hk : k ≠ 0) : (l.drop 1).length + 1 = l.length := by
  cases l with
  | nil => exact absurd h.symm hk
  | cons t r => simp
theorem nod_parse : ∀ f : Nat, (∀ acc l g n l1 g1, altP f acc l g = some (n, l1, g1) → nodT n + 4 * l1.length ≤ nodL acc + 4 * l.length + 2) ∧ (∀ acc l g n l1 g1, rowP f acc l g = some (n, l1, g1) → nodT n + 4 * l1.length ≤ nodL acc + 4 * l.length + 1) ∧ (∀ l g n l1 g1, pieceP f l g = some (n, l1, g1) → nodT n + 4 * l1.length ≤ 4 * l.length) ∧ (∀ l g n l1 g1, groupP f l g = some (n, l1, g1) → nodT n + 4 * l1.length ≤ 4 * l.length)
  | 0 => ⟨fun acc l g n l1 g1 h => by simp [altP] at h, fun acc l g n l1 g1 h => by simp [rowP] at h, fun l g n l1 g1 h => by simp [pieceP] at h, fun l g n l1 g1 h => by simp [groupP] at h⟩
  | f + 1 => by
    obtain ⟨ia, ir, ip, ig⟩ := nod_parse f
    refine ⟨fun acc l g n l1 g1 h => ?_, fun acc l g n l1 g1 h => ?_, fun l g n l1 g1 h => ?_, fun l g n l1 g1 h => ?_⟩
    · simp only [altP] at h
      cases hr : rowP f [] l g with
      | none => rw [hr] at h; cases h
      | some x =>
        obtain ⟨m, l2, g2⟩ := x
        rw [hr] at h
        have h2 := ir _ _ _ _ _ _ hr
        have h0 : nodL ([] : List PN) = 0 := by simp [nodL]
        simp only at h
        split at h
        · rename_i h6
          have h3 := ia _ _ _ _ _ _ h
          have h4 := headK_ne h6 (by decide)
          rw [nodL_append] at h3
          have h5 : nodL [m] = nodT m := by simp [nodL]
          omega
        · cases h
          have h3 := nod_join (.inr rfl : (3 : Int) = 2 ∨ (3 : Int) = 3) (acc ++ [m])
          rw [nodL_append] at h3
          have h5 : nodL [m] = nodT m := by simp [nodL]
          omega
    · simp only [rowP] at h
      cases hr : pieceP f l g with
      | none => rw [hr] at h; cases h
      | some x =>
        obtain ⟨m, l2, g2⟩ := x
        rw [hr] at h
        have h2 := ip _ _ _ _ _ hr
        simp only at h
        split at h
        · have h3 := ir _ _ _ _ _ _ h
          rw [nodL_append] at h3
          have h5 : nodL [m] = nodT m := by simp [nodL]
          omega
        · cases h
          have h3 := nod_join (.inl rfl : (2 : Int) = 2 ∨ (2 : Int) = 3) (acc ++ [m])
          rw [nodL_append] at h3
          have h5 : nodL [m] = nodT m := by simp [nodL]
          omega
    · cases l with
      | nil => simp [pieceP] at h
      | cons t r =>
        simp only [pieceP] at h
        split at h
        · cases h; simp [nodT]; omega
        · split at h
          · cases h; simp [nodT]; omega
          · split at h
            · cases h
              have := nod_rep (.mk 1 t.set 0 0 0 []) r
              have h1 : nodT (.mk 1 t.set 0 0 0 []) = 1 := by simp [nodT]
              simp only [List.length_cons]; omega
            · split at h
              · cases hr : groupP f r g with
                | none => rw [hr] at h; cases h
                | some x =>
                  obtain ⟨m, l2, g2⟩ := x
                  rw [hr] at h
                  have h2 := ig _ _ _ _ _ hr
                  cases h
                  have := nod_rep m l2
                  simp only [List.length_cons]; omega
              · cases h
    · simp only [groupP] at h
      cases hr : altP f [] l (g + 1) with
      | none => rw [hr] at h; cases h
      | some x =>
        obtain ⟨m, l2, g2⟩ := x
        rw [hr] at h
        have h2 := ia _ _ _ _ _ _ hr
        have h0 : nodL ([] : List PN) = 0 := by simp [nodL]
        simp only at h
        split at h
        · cases h
        · rename_i h5
          cases h
          have h4 := headK_ne (Decidable.byContradiction fun e => h5 (.inr e) : headK l2 = 5) (by decide)
          simp only [nodT, nodH]
          simp
          omega
theorem parse_nods {bk : BkF} {ext : Bool} {l : List UInt8} {t : PN} (h : parseP bk ext l = some t) : nodT t ≤ 802 := by
  unfold parseP at h
  split at h
  · cases h
  · cases ht : toksF bk ext 200 4 l with
    | none => rw [ht] at h; cases h
    | some ts =>
      rw [ht] at h
      simp only at h
      have hl := toksF_len _ _ _ _ ht
      cases ha : altP 1001 [] ts 0 with
      | none => rw [ha] at h; cases h
      | some x =>
        obtain ⟨n, r, g⟩ := x
        rw [ha] at h
        simp only at h
        have h2 := (nod_parse 1001).1 _ _ _ _ _ _ ha
        have h0 : nodL ([] : List PN) = 0 := by simp [nodL]
        split at h
        · cases h; omega
        · cases h
open Go.RowKit
theorem top_le (f : Nat → Bool) : ∀ n, top f n ≤ n
  | 0 => by rw [top]; exact Nat.le_refl _
  | n + 1 => by
    rw [top]
    split
    · exact Nat.le_refl _
    · have := top_le f n; omega
def EvOk (i j : Nat) (e : Ev) : Prop := 1 ≤ e.1 ∧ e.1 ≤ 9 ∧ i ≤ e.2.1 ∧ e.2.1 ≤ e.2.2 ∧ e.2.2 ≤ j
theorem EvOk.mono {i j i' j' : Nat} {e : Ev} (h : EvOk i j e) (hi : i' ≤ i) (hj : j ≤ j') : EvOk i' j' e := ⟨h.1, h.2.1, by have := h.2.2.1; omega, h.2.2.2.1, by have := h.2.2.2.2; omega⟩
def EvIn (f : EvF) : Prop := ∀ i j, i ≤ j → ∀ e ∈ f i j, EvOk i j e
theorem EvIn.row {rs : List Rel} : ∀ {es : List EvF}, (∀ e ∈ es, EvIn e) → EvIn (rowE rs es) := by
  induction rs with
  | nil => intro es _ i j _ e he; cases es <;> simp [rowE] at he
  | cons r rs ih =>
    intro es h i j hij e he
    cases es with
    | nil => simp [rowE] at he
    | cons f es =>
      simp only [rowE] at he
      have ht := top_le (fun d => r i (i + d) && rowB rs (i + d) j) (j - i)
      rcases List.mem_append.1 he with he | he
      · exact (h f (List.mem_cons_self ..) _ _ (by omega) e he).mono (Nat.le_refl _) (by omega)
      · exact (ih (fun f hf => h f (List.mem_cons_of_mem _ hf)) _ _ (by omega) e he).mono (by omega) (Nat.le_refl _)
theorem EvIn.alt {rs : List Rel} : ∀ {es : List EvF}, (∀ e ∈ es, EvIn e) → EvIn (altE rs es) := by
  induction rs with
  | nil => intro es _ i j _ e he; cases es <;> simp [altE] at he
  | cons r rs ih =>
    intro es h i j hij e he
    cases es with
    | nil => simp [altE] at he
    | cons f es =>
      simp only [altE] at he
      split at he
      · exact h f (List.mem_cons_self ..) i j hij e he
      · exact ih (fun f hf => h f (List.mem_cons_of_mem _ hf)) i j hij e he
theorem EvIn.rep {K : Rel} {f : EvF} (h : EvIn f) : ∀ (n : Nat) (lo hi : Int), EvIn (repE K f n lo hi)
  | 0, lo, hi => fun i j hij e he => by
    rw [repE] at he
    split at he
    · exact (h i i (Nat.le_refl _) e he).mono (Nat.le_refl _) hij
    · cases he
  | n + 1, lo, hi => fun i j hij e he => by
    rw [repE] at he
    split at he
    · split at he
      · exact (h i i (Nat.le_refl _) e he).mono (Nat.le_refl _) hij
      · cases he
    · have ht := top_le (fun d => decide (0 < d) && K i (i + d) && repB K (lo - 1) (decH hi) (i + d) j) (j - i)
      rcases List.mem_append.1 he with he | he
      · exact (h _ _ (by omega) e he).mono (Nat.le_refl _) (by omega)
      · exact (EvIn.rep h n _ _ _ _ (by omega) e he).mono (by omega) (Nat.le_refl _)
theorem EvIn.head {es : List EvF} (h : ∀ e ∈ es, EvIn e) : EvIn (headE es) := by
  cases es with
  | nil => intro i j _ e he; cases he
  | cons f es => exact h f (List.mem_cons_self ..)
theorem EvIn.node {k lo hi num : Int} {rs : List Rel} {es : List EvF} (h : ∀ e ∈ es, EvIn e) : EvIn (evK k lo hi num rs es) := fun i j hij e he => by
  unfold evK at he
  split at he
  · exact EvIn.row h i j hij e he
  split at he
  · exact EvIn.alt h i j hij e he
  split at he
  · exact EvIn.rep (EvIn.head h) _ _ _ i j hij e he
  split at he
  · rcases List.mem_append.1 he with he | he
    · split at he
      · rename_i h1
        have : e = (num.toNat, i, j) := by simpa using he
        subst this
        exact ⟨by show 1 ≤ num.toNat; omega, by show num.toNat ≤ 9; omega, Nat.le_refl _, hij, Nat.le_refl _⟩
      · cases he
    · exact EvIn.head h i j hij e he
  · cases he
mutual
theorem ev_in (T : List UInt8) (b : Bool) : ∀ t : PN, EvIn (evT T b t)
  | .mk k S lo hi num ks => by
    rw [evT]
    exact EvIn.node (ev_inL T b ks)
theorem ev_inL (T : List UInt8) (b : Bool) : ∀ ks : List PN, ∀ e ∈ evL T b ks, EvIn e
  | [], e, he => by simp [evL] at he
  | t :: ts, e, he => by
    rw [evL, List.mem_cons] at he
    rcases he with rfl | he
    · exact ev_in T b t
    · exact ev_inL T b ts e he
end
theorem putE_other {k : Nat} : ∀ {es : List Ev} {sp : Sp}, (∀ e ∈ es, e.1 ≠ k) → putE sp es k = sp k
  | [], sp, _ => rfl
  | e :: es, sp, h => by
    show putE (setE sp e) es k = sp k
    rw [putE_other fun f hf => h f (List.mem_cons_of_mem _ hf)]
    unfold setE
    rw [if_neg fun e2 => h e (List.mem_cons_self ..) e2.symm]
theorem spM_zero {T : List UInt8} {b : Bool} {t : PN} {i z : Nat} (h : i ≤ z) : spM (evT T b t) i z 0 = ((i : Int), (z : Int)) := by
  unfold spM
  rw [putE_other fun e he e0 => by have := (ev_in T b t i z h e he).1; omega]
  unfold putS
  rw [if_pos rfl]
theorem putE_in {i z : Nat} {k : Nat} : ∀ {es : List Ev} {sp : Sp}, (∀ e ∈ es, EvOk i z e) → putE sp es k = sp k ∨ ∃ a c : Nat, putE sp es k = ((a : Int), (c : Int)) ∧ i ≤ a ∧ a ≤ c ∧ c ≤ z
  | [], sp, _ => .inl rfl
  | e :: es, sp, h => by
    show putE (setE sp e) es k = sp k ∨ _
    rcases putE_in (sp := setE sp e) fun f hf => h f (List.mem_cons_of_mem _ hf) with h1 | h1
    · by_cases hk : k = e.1
      · right
        refine ⟨e.2.1, e.2.2, ?_, (h e (List.mem_cons_self ..)).2.2.1, (h e (List.mem_cons_self ..)).2.2.2.1, (h e (List.mem_cons_self ..)).2.2.2.2⟩
        show putE (setE sp e) es k = _
        rw [h1]
        unfold setE
        rw [if_pos hk]
      · left
        rw [h1]
        unfold setE
        rw [if_neg hk]
    · exact .inr h1
theorem FindR.zero {T : List UInt8} {b : Bool} {t : PN} {fr : Int} {ok : Bool} {sp : Sp} (h : FindR T b t fr ok sp) : sp 0 = (0, 0) ∨ (ok = true) := by
  rcases h with ⟨_, rfl, _⟩ | ⟨h, _⟩
  · exact .inl rfl
  · exact .inr h
theorem FindR.span {T : List UInt8} {b : Bool} {t : PN} {fr : Nat} {ok : Bool} {sp : Sp} (h : FindR T b t (fr : Int) ok sp) (hfr : fr ≤ T.length) (hT : T.length ≤ 1024) :
    (ok = false ∧ sp = spI 0 ∧ ∀ i j : Nat, fr ≤ i → i ≤ T.length → semT T b t i j = false) ∨
    (ok = true ∧ ∃ i z : Nat, sp 0 = ((i : Int), (z : Int)) ∧ fr ≤ i ∧ i ≤ z ∧ z ≤ T.length ∧ semT T b t i z = true ∧ (∀ k j : Nat, fr ≤ k → k < i → semT T b t k j = false) ∧ (∀ j : Nat, z < j → semT T b t i j = false) ∧ sp = spM (evT T b t) i z) := by
  rcases h with ⟨h1, h2, h3⟩ | ⟨h1, _, _, i, z, h2, h3, h4, h5, h6, h7⟩
  · left
    refine ⟨h1, h2, fun i j hi hiN => ?_⟩
    rcases h3 with h3 | h3 | h3 | h3
    · omega
    · omega
    · omega
    · exact h3 i j (by omega) hiN
  · right
    have hiz : i ≤ z := ((fit_T T b t) i z h4).1
    exact ⟨h1, i, z, by rw [h7]; exact spM_zero hiz, by omega, hiz, h3, h4, fun k j hk hki => h5 k j (by omega) hki, h6, h7⟩
end Go.Proofs.YtcbgbicdfpkikaaGreatDoor
