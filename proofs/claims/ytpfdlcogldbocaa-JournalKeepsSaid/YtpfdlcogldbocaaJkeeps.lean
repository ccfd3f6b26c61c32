/-
  The walk of JournalKeeps: it returns true and touches nothing that was there. Conditions: the operations lie in memory.
-/
import Derived.Test.YtpfdlcogldbocaaJwith
import Derived.Test.YtpfdlcogldbocaaStrange
import Derived.Deep.CutRange
import Derived.Deep.QuietTactic
import Derived.BigQuiet
namespace Go.Proofs.Ytpfdlcogldbocaa
open Go.RowKit Go.Deep Go.Maps

/-- Behind an operation of the script: what has been called, and what is synced. -/
def KeepSt (w : World) (pj g p : Nat) (m : Nat) (cs : List CallM) (ls : List (List UInt8)) (rs : List Nat) (sy : Nat) (Z : Nat → Prop) (wr : World) : Prop :=
  JS wr Z pj g p 12 0 12 (fun _ => none) cs ls m ∧ Hist (fun _ => none) 0 12 cs ls rs ∧ Sured cs rs cs.length sy ∧ (∀ j, Z j ∨ j = pj ∨ j = g → w.heap.size ≤ j) ∧ Below w.heap.size w wr
/-- The two rows of numbers. -/
def KeepRows (w : World) (cs : List CallM) (rs : List Nat) (n : Nat) (ca sa : List Nat) (cv sv : Value) (A : Nat → Prop) (wr : World) : Prop :=
  IntsOwn wr w.heap.size cv ca ∧ IntsOwn wr w.heap.size sv sa ∧ ca.length = n ∧ sa.length = n ∧ (∀ (k c s : Nat), ca[k]? = some c → sa[k]? = some s → c ≤ cs.length ∧ Sured cs rs c s) ∧ (∀ k, cv.ownBlock = some k → ¬ A k ∧ sv.ownBlock ≠ some k) ∧ (∀ k, sv.ownBlock = some k → ¬ A k)
def KeepRel (w : World) (pj g p : Nat) (cv sv yv iv : Value) (wr : World) : Prop :=
  ∃ (i n sy : Nat) (cs : List CallM) (ls : List (List UInt8)) (rs ca sa : List Nat) (Z : Nat → Prop), iv = .int .i64 (i : Int) ∧ yv = .int .i64 (sy : Int) ∧ i ≤ 30 ∧ 1 ≤ n ∧ n ≤ i + 1 ∧ KeepSt w pj g p (100 + 20 * i) cs ls rs sy Z wr ∧ KeepRows w cs rs n ca sa cv sv (fun j => Z j ∨ j = pj ∨ j = g) wr

theorem cutF32' {cs : List CallM} (hok : ∀ c ∈ cs, c.ok) {a κ : Nat} (hs : SyncAt (cs.take a) κ) {ks : List Bool} {torn : Int} {F1 : Int → Option (List UInt8)} (e : F1 = cutF (fun _ => none) (cs.take a) κ ks torn) : Blocks32 F1 := by
  rw [e]
  exact cutF32 none32 (fun c hc => hok c (List.mem_of_mem_take hc)) hs ks torn
theorem zero_none : reg (con (fun _ => none) []) 0 12 = List.replicate (32 * 12) 0 := reg_none 0 12
theorem open_none (f k : Nat) : openCs (con (fun _ => none) []) [] f k 0 = [] := by
  unfold openCs
  rw [if_pos ((zto_nil (fun x => rfl) f k 0).2 (fun x hx => by
    rw [reg_none] at hx
    exact List.eq_of_mem_replicate (List.mem_of_mem_drop hx)))]

/-- Behind the operation's own call. -/
def KeepMid (w : World) (pj g p m : Nat) (cs : List CallM) (rs : List Nat) (Z : Nat → Prop) (wr : World) (yv : Value) (wx : World) : Prop :=
  ∃ (sy : Nat) (ds : List CallM) (qs : List Nat) (ls : List (List UInt8)) (Z' : Nat → Prop), yv = .int .i64 (sy : Int) ∧ KeepSt w pj g p m (cs ++ ds) ls (rs ++ qs) sy Z' wx ∧ (∀ j, Z' j → Z j ∨ wr.heap.size ≤ j) ∧ Turned (fun j => Z j ∨ j = pj ∨ j = g) wr wx

section
variable {w wr wx : World} {pj g p m sy : Nat} {cs : List CallM} {ls : List (List UInt8)} {rs : List Nat} {Z : Nat → Prop}
theorem KeepSt.synced (h : KeepSt w pj g p m cs ls rs sy Z wr) (hn : JSNext Z pj g p 12 0 12 (fun _ => none) (cs ++ [syncM]) ls (m + 1) wr wx) : ∃ Z', KeepSt w pj g p (m + 1) (cs ++ [syncM]) ls (rs ++ [ls.length]) ls.length Z' wx ∧ (∀ j, Z' j → Z j ∨ wr.heap.size ≤ j) ∧ Turned (fun j => Z j ∨ j = pj ∨ j = g) wr wx := by
  obtain ⟨hj, hh, hs, hg, hb⟩ := h
  obtain ⟨Z', hj', hz, ht⟩ := hn
  refine ⟨Z', ⟨hj', hh.synced, Sured.now hh.len _, fun j hjj => ?_, turned_new hb hg ht⟩, hz, ht⟩
  rcases hjj with hjj | hjj
  · rcases hz j hjj with h | h
    · exact hg j (.inl h)
    · exact Nat.le_trans hb.size h
  · exact hg j (.inr hjj)
theorem KeepSt.appended (h : KeepSt w pj g p m cs ls rs sy Z wr) {l : List UInt8} (hr : RecOk l) (hfit : (frames ls).length + (frame l).length ≤ 32 * 12) (hn : JSNext Z pj g p 12 0 12 (fun _ => none) (cs ++ wto (nextOf (reg (con (fun _ => none) cs) 0 12) l (frames ls).length) 0 ((frames ls).length / 32) (wrote (frames ls).length (frame l).length)) (ls ++ [l]) (m + 12) wr wx) :
    ∃ ds qs Z', KeepSt w pj g p (m + 12) (cs ++ ds) (ls ++ [l]) (rs ++ qs) sy Z' wx ∧ (∀ j, Z' j → Z j ∨ wr.heap.size ≤ j) ∧ Turned (fun j => Z j ∨ j = pj ∨ j = g) wr wx := by
  obtain ⟨hj, hh, hs, hg, hb⟩ := h
  obtain ⟨Z', hj', hz, ht⟩ := hn
  refine ⟨_, _, Z', ⟨hj', hh.appended none32 (by omega) hr hfit, hs.more _ _ (by rw [List.length_append]; omega), fun j hjj => ?_, turned_new hb hg ht⟩, hz, ht⟩
  rcases hjj with hjj | hjj
  · rcases hz j hjj with h | h
    · exact hg j (.inl h)
    · exact Nat.le_trans hb.size h
  · exact hg j (.inr hjj)
theorem KeepSt.below (h : KeepSt w pj g p m cs ls rs sy Z wr) (hb : Below wr.heap.size wr wx) : KeepSt w pj g p m cs ls rs sy Z wx := ⟨h.1.below hb, h.2.1, h.2.2.1, h.2.2.2.1, h.2.2.2.2.trans (hb.mono h.2.2.2.2.size)⟩
theorem KeepSt.more (h : KeepSt w pj g p m cs ls rs sy Z wr) {m' : Nat} (hm : m ≤ m') : KeepSt w pj g p m' cs ls rs sy Z wr := ⟨h.1.more hm, h.2⟩
theorem KeepSt.same (h : KeepSt w pj g p m cs ls rs sy Z wr) (hb : Below wr.heap.size wr wx) {m' : Nat} (hm : m ≤ m') : KeepMid w pj g p m' cs rs Z wr (.int .i64 (sy : Int)) wx :=
  ⟨sy, [], [], ls, Z, rfl, by rw [List.append_nil, List.append_nil]; exact (h.below hb).more hm, fun j hj => .inl hj, Turned.of_below hb⟩
end

theorem keep_next {w wr wc w6 w7 : World} {pj g p m sy n : Nat} {cs ds : List CallM} {ls : List (List UInt8)} {rs qs ca sa : List Nat} {Z Z' : Nat → Prop} {cv sv v9 v10 : Value} (hkr : KeepRows w cs rs n ca sa cv sv (fun j => Z j ∨ j = pj ∨ j = g) wr) (hst : KeepSt w pj g p m (cs ++ ds) ls (rs ++ qs) sy Z' wc)
    (hz : ∀ j, Z' j → Z j ∨ wr.heap.size ≤ j) (ht : Turned (fun j => Z j ∨ j = pj ∨ j = g) wr wc) (h6 : IntsOwn w6 w.heap.size v9 (ca ++ [(cs ++ ds).length])) (ht6 : Turned (fun j => cv.ownBlock = some j) wc w6) (hv6 : ∀ k, v9.ownBlock = some k → cv.ownBlock = some k ∨ wc.heap.size ≤ k)
    (h7 : IntsOwn w7 w.heap.size v10 (sa ++ [sy])) (ht7 : Turned (fun j => sv.ownBlock = some j) w6 w7) (hv7 : ∀ k, v10.ownBlock = some k → sv.ownBlock = some k ∨ w6.heap.size ≤ k) :
    KeepSt w pj g p m (cs ++ ds) ls (rs ++ qs) sy Z' w7 ∧ KeepRows w (cs ++ ds) (rs ++ qs) (n + 1) (ca ++ [(cs ++ ds).length]) (sa ++ [sy]) v9 v10 (fun j => Z' j ∨ j = pj ∨ j = g) w7 := by
  obtain ⟨hc, hs, hcl, hsl, hp, hcA, hsA⟩ := hkr
  obtain ⟨hj, hh, hsu, hg, hb⟩ := hst
  have hsz := ht.size
  have hs6 := ht6.size
  have hs7 := ht7.size
  have hbs := hb.size
  -- the old rows' blocks
  have oc : ∀ k, cv.ownBlock = some k → w.heap.size ≤ k ∧ k < wr.heap.size ∧ ¬ (Z' k ∨ k = pj ∨ k = g) := fun k hk => by
    have h1 := hc.lt k hk
    refine ⟨h1.1, h1.2, fun h => ?_⟩
    rcases h with h | h
    · rcases hz k h with h | h
      · exact (hcA k hk).1 (.inl h)
      · omega
    · exact (hcA k hk).1 (.inr h)
  have os : ∀ k, sv.ownBlock = some k → w.heap.size ≤ k ∧ k < wr.heap.size ∧ ¬ (Z' k ∨ k = pj ∨ k = g) := fun k hk => by
    have h1 := hs.lt k hk
    refine ⟨h1.1, h1.2, fun h => ?_⟩
    rcases h with h | h
    · rcases hz k h with h | h
      · exact hsA k hk (.inl h)
      · omega
    · exact hsA k hk (.inr h)
  have nv9 : ∀ k, v9.ownBlock = some k → ¬ (Z' k ∨ k = pj ∨ k = g) ∧ sv.ownBlock ≠ some k := fun k hk => by
    rcases hv6 k hk with h | h
    · exact ⟨(oc k h).2.2, (hcA k h).2⟩
    · refine ⟨fun hA => ?_, fun hsv => ?_⟩
      · have := hj.lt k hA
        omega
      · have := (os k hsv).2.1
        omega
  refine ⟨⟨(hj.turned ht6 (fun j hjj hcv => (oc j hcv).2.2 hjj)).turned ht7 (fun j hjj hsv => (os j hsv).2.2 hjj), hh, hsu, hg, turned_new (turned_new hb (fun j hjj => (oc j hjj).1) ht6) (fun j hjj => (os j hjj).1) ht7⟩, h6.turned ht7 (fun k hk => (nv9 k hk).2), h7, by simp [hcl], by simp [hsl], fun k c s hkc hks => ?_, fun k hk => ⟨(nv9 k hk).1, fun h10 => ?_⟩, fun k hk => ?_⟩
  · by_cases hk : k < ca.length
    · rw [List.getElem?_append_left hk] at hkc
      rw [List.getElem?_append_left (by omega)] at hks
      obtain ⟨a, b⟩ := hp k c s hkc hks
      exact ⟨by rw [List.length_append]; omega, b.more _ _ (Nat.le_refl _)⟩
    · have hk2 := (List.getElem?_eq_some_iff.1 hkc).1
      rw [List.length_append, List.length_singleton] at hk2
      have hk3 : k = ca.length := by omega
      subst hk3
      rw [List.getElem?_append_right (Nat.le_refl _), Nat.sub_self] at hkc
      rw [List.getElem?_append_right (by omega), show ca.length - sa.length = 0 by omega] at hks
      simp only [List.getElem?_cons_zero, Option.some.injEq] at hkc hks
      subst hkc hks
      exact ⟨Nat.le_refl _, hsu⟩
  · rcases hv7 k h10 with h | h
    · exact (nv9 k hk).2 h
    · have := (h6.lt k hk).2
      omega
  · rcases hv7 k hk with h | h
    · exact (os k h).2.2
    · intro hA
      have := hj.lt k hA
      omega

set_option maxRecDepth 100000 in
set_option maxHeartbeats 8000000 in
theorem keeps_any (SA : Option Addr) (os : List OpM) (scap : Nat) (o1 o2 : OpM) (w : World) (hos : OpsAt w SA os) (_hlen : os.length ≤ maxLen) (h1 : o1.good w) (h2 : o2.good w) :
    Calls Try.prog 4 #[.slice SA os.length scap, .agg (o1.cells ++ o2.cells).toArray] w (TrueIs w) := by
  obtain ⟨BX, eBX⟩ : ∃ BX, BX = (o1.cells ++ o2.cells).toArray := ⟨_, rfl⟩
  obtain ⟨nl, enl⟩ : ∃ nl, nl = os.length := ⟨_, rfl⟩
  obtain ⟨w0, ew0⟩ : ∃ w0, w0 = w.alloc (.cells BX 61) := ⟨_, rfl⟩
  have hb0 : Below w.heap.size w w0 := by rw [ew0]; exact (Below.refl _ _).alloc (Nat.le_refl _) _
  have hs0 : w0.heap.size = w.heap.size + 1 := by rw [ew0]; simp
  have hbx : w0.heap[w.heap.size]? = some (.cells BX 61 (0, 0)) := by rw [ew0]; exact heap_alloc_new w _
  have hn := dk_new 12 w0 (by omega) (by omega)
  rw [show ((12 : Nat) : Int) = 12 from rfl] at hn
  have HN := Lib.hid hn
  have HOS := Lib.hid hos
  have HO1 := Lib.hid h1
  have HO2 := Lib.hid h2
  have ENL := Lib.hid enl
  have EBX := Lib.hid eBX
  have HB0 := Lib.hid hb0
  have HS0 := Lib.hid hs0
  have HBX := Lib.hid hbx
  have EW0 := Lib.hid ew0
  rw [← enl, ← eBX]
  rw [← enl] at _hlen
  unfold maxLen at _hlen
  clear hn hos h1 h2 enl eBX hb0 hs0 hbx ew0
  go_enter Try.func4, Try.ntmps4
  go_wp2_with fail
  rw [← EW0.out]
  go_at_call 7
  (with_reducible refine HN.out.mono ?_)
  rintro e w1 ⟨p, rfl, hd1, hb1⟩
  have HD1 := Lib.hid hd1
  have HB1 := Lib.hid hb1
  clear hd1 hb1
  go_wp2_with fail
  go_at_call 9
  (with_reducible refine (alive_any w1).mono ?_)
  rintro e w2 ⟨rfl, hb2⟩
  have hd2 := HD1.out.below hb2
  have hbw2 : Below w0.heap.size w0 w2 := HB1.out.trans (hb2.mono HB1.out.size)
  have ho := js_open hd2 0 12 (by omega) (by omega) (by omega) (by omega)
  rw [show ((0 : Nat) : Int) = 0 from rfl, show ((12 : Nat) : Int) = 12 from rfl] at ho
  have HO := Lib.hid ho
  have HB2 := Lib.hid hbw2
  have HS2 := Lib.hid hb2.size
  clear hd2 hbw2 ho hb2
  go_wp2_with fail
  go_at_call 10
  (with_reducible refine HO.out.mono ?_)
  rintro e w3 ⟨pj, g, Z3, ls, u, rfl, hs3, hj3, hn3, hz3, ht3⟩
  rw [reg_none] at hs3
  obtain ⟨rfl, rfl⟩ := scan_noughts hs3
  rw [open_none] at hj3
  have hge : ∀ j, Z3 j ∨ j = pj ∨ j = g → w0.heap.size ≤ j := fun j hj => by
    have h1 := HB1.out.size
    have h2 := HS2.out
    rcases hj with hj | hj | hj
    · rcases hz3 j hj with h | h
      · exact h.1
      · omega
    · omega
    · omega
  have hb3 : Below w0.heap.size w0 w3 := turned_new HB2.out (fun j hj => hj.1) ht3
  have hca := dk_calls hj3.1
  rw [show ((([] : List CallM).length : Nat) : Int) = 0 from rfl] at hca
  have HCA := Lib.hid hca
  have HJ3 := Lib.hid hj3
  have HGE := Lib.hid hge
  have HB3 := Lib.hid hb3
  clear hs3 hj3 hn3 hz3 ht3 hge hb3 hca
  go_wp2_with fail
  go_at_call 19
  (with_reducible refine HCA.out.mono ?_)
  rintro e w' ⟨rfl, rfl⟩
  go_wp2_with fail
  obtain ⟨w4, e4⟩ : ∃ w4, w4 = (w3.alloc (.cells #[.int .i64 0] 3)).alloc (.cells #[.int .i64 0] 3) := ⟨_, rfl⟩
  have hst : KeepRel w0 pj g p (.slice (some ⟨w3.heap.size, 0, none⟩) 1 1) (.slice (some ⟨w3.heap.size + 1, 0, none⟩) 1 1) (.int .i64 0) (.int .i64 0) w4 := by
    have hb4 : Below w3.heap.size w3 w4 := by rw [e4]; exact ((Below.refl _ _).alloc (Nat.le_refl _) _).alloc (by simp) _
    have hl3 := HJ3.out.lt
    have hb := HB3.out.size
    refine ⟨0, 1, 0, [], [], [], [0], [0], Z3, rfl, rfl, by omega, by omega, by omega, ⟨(HJ3.out.below hb4).more (by omega), Hist.start zero_none, .inl rfl, HGE.out, HB3.out.trans (hb4.mono hb)⟩, ⟨?_, ?_, rfl, rfl, fun k c s hc hs => ?_, fun k hk => ?_, fun k hk => ?_⟩⟩
    · have h1 : IntsOwn (w3.alloc (.cells #[.int .i64 0] 3)) w0.heap.size (.slice (some ⟨w3.heap.size, 0, none⟩) 1 1) [0] := IntsOwn.lit w3 0 w0.heap.size hb
      rw [e4]
      exact h1.below ((Below.refl _ _).alloc (Nat.le_refl _) _)
    · have h1 : IntsOwn ((w3.alloc (.cells #[.int .i64 0] 3)).alloc (.cells #[.int .i64 0] 3)) w0.heap.size (.slice (some ⟨(w3.alloc (.cells #[.int .i64 0] 3)).heap.size, 0, none⟩) 1 1) [0] := IntsOwn.lit (w3.alloc (.cells #[.int .i64 0] 3)) 0 w0.heap.size (by simp; omega)
      rw [e4]
      simpa using h1
    · have hk0 : k = 0 := by have := (List.getElem?_eq_some_iff.1 hc).1; simp at this; omega
      subst hk0
      simp at hc hs
      subst hc hs
      exact ⟨Nat.le_refl _, .inl rfl⟩
    · have e : some w3.heap.size = some k := hk
      injection e with e
      refine ⟨fun h => ?_, fun h => ?_⟩
      · have := hl3 k h
        omega
      · have e : some (w3.heap.size + 1) = some k := h
        injection e with e
        omega
    · have e : some (w3.heap.size + 1) = some k := hk
      injection e with e
      intro h
      have := hl3 k h
      omega
  rw [← e4]
  have HST := Lib.hid hst
  clear hst e4
  go_loopw [9, 10, 11, 12] (fun cv sv yv iv wr => KeepRel w0 pj g p cv sv yv iv wr) (fun _ _ _ iv _ => 30 - (intOf iv).toNat)
  case atStart => exact HST.out
  case round =>
    obtain ⟨i, n, sy, cs, ls, rs, ca, sa, Z, rfl, rfl, hi, hn1, hn2, hks, hkr⟩ := hrel
    have HKS := Lib.hid hks
    have HKR := Lib.hid hkr
    by_cases hio : i < nl ∧ i < 30
    · obtain ⟨hi1, hi2⟩ := hio
      obtain ⟨o, ho⟩ : ∃ o, os[i]? = some o := ⟨os[i]'(by have := ENL.out; omega), List.getElem?_eq_getElem _⟩
      obtain ⟨⟨hob, hok, wk, wn, wt, hbc, hbm, hkm⟩, sg, so, rfl, hrange⟩ := HOS.out i o ho
      have hbw : Below w.heap.size w wr := HB0.out.trans (hks.2.2.2.2.mono HB0.out.size)
      have lsg := World.block_lt_of_cell? w _ (hrange 0 _ rfl)
      have kc : ∀ j u, o.cells[j]? = some u → w.cell? ⟨sg, so + i * 5 + j, none⟩ = some u := fun j u hu => hrange j u hu
      have k0 : wr.cell? ⟨sg, so + i * 5, none⟩ = some (.int .i64 o.kind) := (hbw.cell (p := ⟨sg, so + i * 5, none⟩) lsg).trans (kc 0 _ rfl)
      have k2 : wr.cell? ⟨sg, so + i * 5 + 2, none⟩ = some (.slice o.A o.b.length o.bcap) := (hbw.cell (p := ⟨sg, so + i * 5 + 2, none⟩) lsg).trans (kc 2 _ rfl)
      obtain ⟨x, ex⟩ : ∃ x, x = o.b.length := ⟨_, rfl⟩
      rw [← ex] at k2
      have hbA : BytesAt wr o.A o.b := hob.below hbw
      have HBA := Lib.hid hbA
      have EX := Lib.hid ex
      have hiI : (i : Int) < (nl : Int) := by omega
      have hi0 : (0 : Int) ≤ (i : Int) := by omega
      have hi30 : (i : Int) < 30 := by omega
      clear hks hkr hob hok wk wn wt hbc hbm hkm hrange hbw lsg kc ex ho hbA
      by_cases hx : 100 < x
      · have hxI : decide (100 < (x : Int)) = true := by simp; omega
        clear k0
        go_wp2_with fail
        go_roundw
        case rel => exact ⟨i + 1, n, sy, cs, ls, rs, ca, sa, Z, by go_num, rfl, by omega, by omega, by omega, HKS.out.more (by omega), HKR.out⟩
        case measure => simp [intOf]; omega
      · have hxI : decide (100 < (x : Int)) = false := by simp; omega
        have hx100 : x ≤ 100 := by omega
        clear hx
        go_upto_if 77 with fail
        go_cut [11] from 77 to 89 (fun yv wx => KeepMid w0 pj g p (112 + 20 * i) cs rs Z wr yv wx)
        case first =>
          have hj := HKS.out.1
          by_cases hk2 : o.kind = 2
          · have hkI : (o.kind == 2) = true := by simp [hk2]
            have hsy := js_sync hj (by omega)
            have HSY := Lib.hid hsy
            clear hk2 hsy hj k0
            go_wp2_with fail
            go_at_call 14
            (with_reducible refine HSY.out.mono ?_)
            rintro e w5 ⟨rfl, hn5⟩
            obtain ⟨Z5, hk5, hz5, ht5⟩ := HKS.out.synced hn5
            have HRE := Lib.hid (js_records hk5.1 (by omega))
            have HK5 := Lib.hid hk5
            have HZ5 := Lib.hid hz5
            have HT5 := Lib.hid ht5
            clear hn5 hk5 hz5 ht5
            go_wp2_with fail
            go_at_call 24
            (with_reducible refine HRE.out.mono ?_)
            rintro e w6 ⟨v6, rfl, hl6, hb6⟩
            obtain ⟨A6, c6, rfl, _⟩ := hl6.rows
            have HB6 := Lib.hid hb6
            clear hl6 hb6
            go_wp2_with fail
            go_meet
            exact ⟨_, _, _, _, Z5, rfl, (HK5.out.below HB6.out).more (by omega), HZ5.out, HT5.out.trans (Turned.of_below (S := fun _ => False) HB6.out) (fun _ _ h => h.elim)⟩
          · have hkI : (o.kind == 2) = false := by simp [hk2]
            clear hk2 k0
            have hlf := length_frame o.b
            by_cases hrec : RecOk o.b
            · by_cases hf : (frames ls).length + (frame o.b).length ≤ 32 * 12
              · have hap := js_append hj (by omega) (by omega) (by omega) o.A o.b o.bcap HBA.out hrec hf
                rw [← EX.out] at hap
                have HAP := Lib.hid hap
                have HREC := Lib.hid hrec
                have HF := Lib.hid hf
                clear hap hj hlf hrec hf
                go_wp2_with fail
                go_at_call 12
                (with_reducible refine HAP.out.mono ?_)
                rintro e w5 ⟨rfl, hn5⟩
                obtain ⟨ds, qs, Z5, hk5, hz5, ht5⟩ := HKS.out.appended HREC.out HF.out hn5
                have HK5 := Lib.hid hk5
                have HZ5 := Lib.hid hz5
                have HT5 := Lib.hid ht5
                clear hn5 hk5 hz5 ht5
                go_wp2_with fail
                go_meet
                exact ⟨_, ds, qs, _, Z5, rfl, HK5.out.more (by omega), HZ5.out, HT5.out⟩
              · have hap := js_append_full hj (by omega) o.A o.b o.bcap HBA.out hrec (by omega)
                rw [← EX.out] at hap
                have HAP := Lib.hid hap
                clear hap hj hlf hrec hf
                go_wp2_with fail
                go_at_call 12
                (with_reducible refine HAP.out.mono ?_)
                rintro e w5 ⟨rfl, hb5⟩
                have HB5 := Lib.hid hb5
                clear hb5
                go_wp2_with fail
                go_meet
                exact HKS.out.same HB5.out (by omega)
            · have hap := jp_append_no pj o.A o.b o.bcap wr (by rw [← EX.out]; unfold maxLen; omega) hrec
              rw [← EX.out] at hap
              have HAP := Lib.hid hap
              clear hap hj hlf hrec
              go_wp2_with fail
              go_at_call 12
              (with_reducible refine HAP.out.mono ?_)
              rintro e w5 ⟨rfl, rfl⟩
              go_wp2_with fail
              go_meet
              exact HKS.out.same (Below.refl _ _) (by omega)
        case rest =>
          obtain ⟨sy', ds, qs, ls', Z', rfl, hk5, hz5, ht5⟩ := hcut
          have hca5 := dk_calls hk5.1.1
          obtain ⟨c', ec'⟩ : ∃ c', c' = (cs ++ ds).length := ⟨_, rfl⟩
          rw [← ec'] at hca5
          have HCA5 := Lib.hid hca5
          have h9 := HKR.out.1.turned ht5 (fun k hk => (HKR.out.2.2.2.2.2.1 k hk).1)
          have h10 := HKR.out.2.1.turned ht5 (fun k hk => HKR.out.2.2.2.2.2.2 k hk)
          have hln : ca.length ≤ 1099511627776 ∧ sa.length ≤ 1099511627776 := ⟨by rw [HKR.out.2.2.1]; omega, by rw [HKR.out.2.2.2.1]; omega⟩
          have H9 := Lib.hid h9
          have H10 := Lib.hid h10
          have HLN := Lib.hid hln
          have HK5 := Lib.hid hk5
          have HZ5 := Lib.hid hz5
          have HT5 := Lib.hid ht5
          have EC := Lib.hid ec'
          clear h9 h10 hln hk5 hz5 ht5 ec' hca5 k0 k2
          go_wp2_with fail
          go_at_call 19
          (with_reducible refine HCA5.out.mono ?_)
          rintro e w' ⟨rfl, rfl⟩
          go_wp2_with ((refine wpList_append_int 94 c' H9.out rfl rfl HLN.out.1 ?_ ?_))
          · exact HK5.out.2.2.2.2.size
          intro v9 w6 hown6 ht6 hv6
          have h10 := H10.out.turned ht6 (fun k hk h => (HKR.out.2.2.2.2.2.1 k h).2 hk)
          have H6 := Lib.hid hown6
          have HT6 := Lib.hid ht6
          have HV6 := Lib.hid hv6
          have H106 := Lib.hid h10
          clear hown6 ht6 hv6 h10
          go_wp2_with ((refine wpList_append_int 98 sy' H106.out rfl rfl HLN.out.2 ?_ ?_))
          · exact Nat.le_trans HK5.out.2.2.2.2.size HT6.out.size
          intro v10 w7 hown7 ht7 hv7
          obtain ⟨hst7, hkr7⟩ := keep_next HKR.out HK5.out HZ5.out HT5.out (EC.out ▸ H6.out) HT6.out HV6.out hown7 ht7 hv7
          have HST7 := Lib.hid hst7
          have HKR7 := Lib.hid hkr7
          clear hown7 ht7 hv7 hst7 hkr7
          go_wp2_with fail
          go_roundw
          case rel => exact ⟨i + 1, n + 1, sy', cs ++ ds, ls', rs ++ qs, _, _, Z', by go_num, rfl, by omega, by omega, by omega, HST7.out.more (by omega), HKR7.out⟩
          case measure => simp [intOf]; omega
    · clear hks hkr
      go_upto_region 11 with fail
      go_cut [62] from 55 to 98 (fun t wx => t = .bool false ∧ wr = wx)
      case first =>
        by_cases hi3 : i < nl
        · have hi4 : decide ((i : Int) < 30) = false := by simp; omega
          have hi5 : (i : Int) < (nl : Int) := by omega
          go_wp2_with fail
          go_meet
          exact ⟨rfl, rfl⟩
        · have hi5 : (nl : Int) ≤ (i : Int) := by omega
          go_wp2_with fail
          go_meet
          exact ⟨rfl, rfl⟩
      case rest =>
        obtain ⟨rfl, rfl⟩ := hcut
        have hre := js_records HKS.out.1 (by omega)
        have HRE := Lib.hid hre
        clear hre
        go_wp2_with fail
        go_at_call 24
        (with_reducible refine HRE.out.mono ?_)
        rintro e w5 ⟨v5, rfl, hl5, hb5⟩
        obtain ⟨A5, c5, rfl, hr5⟩ := hl5.rowsIn
        have hst5 := HKS.out.below hb5
        have hbw5 : Below w.heap.size w w5 := HB0.out.trans (hst5.2.2.2.2.mono HB0.out.size)
        have hlb : w.heap.size < w0.heap.size := by have := HS0.out; omega
        have bx : ∀ j u, (o1.cells ++ o2.cells)[j]? = some u → w5.cell? ⟨w.heap.size, j, none⟩ = some u := fun j u hu => by
          have := (hst5.2.2.2.2.cell (p := ⟨w.heap.size, j, none⟩) hlb).trans (cell_of_row _ _ j _ _ _ HBX.out)
          rw [this, EBX.out]
          simpa using hu
        have b1 : w5.cell? ⟨w.heap.size, 1, none⟩ = some (.int .i64 o1.n) := bx 1 _ rfl
        have b3 : w5.cell? ⟨w.heap.size, 3, none⟩ = some (.slice o1.K o1.keep.length o1.kcap) := bx 3 _ rfl
        have b4 : w5.cell? ⟨w.heap.size, 4, none⟩ = some (.int .i64 o1.torn) := bx 4 _ rfl
        have hln := hst5.1.1.len
        obtain ⟨nc, enc⟩ : ∃ nc, nc = cs.length := ⟨_, rfl⟩
        have hca5 : ∀ N, Calls Try.prog 19 #[.pointer (some ⟨p, 0, none⟩)] (w5.drewN N) fun e w' => e = .returned (.int .i64 (cs.length : Int)) ∧ w' = w5.drewN N := fun N => (dk_calls (hst5.1.1.drewN N)).mono fun e w' h => ⟨h.1, h.2.symm⟩
        have hpk : ∀ N, Calls Try.prog 30 #[.int .i64 o1.n, .int .i64 ((nc + 1 : Nat) : Int)] (w5.drewN N) fun e w' => e = .returned (.int .i64 (red o1.n (nc + 1) : Int)) ∧ w' = w5.drewN N := fun N => (pick_any o1.n (nc + 1) (w5.drewN N) HO1.out.2.2.2.1 (by omega) (by omega)).mono fun e w' h => ⟨h.1, h.2.symm⟩
        rw [← enc] at hca5 hln
        rw [Int.natCast_add, show ((1 : Nat) : Int) = 1 from rfl] at hpk
        have HCA5 := Lib.hid hca5
        have HPK := Lib.hid hpk
        have hat := red_lt o1.n (nc + 1) (by omega)
        obtain ⟨at_, eat⟩ : ∃ a, a = red o1.n (nc + 1) := ⟨_, rfl⟩
        rw [← eat] at HPK hat
        have HST5 := Lib.hid hst5
        have HR5 := Lib.hid hr5
        have HBW5 := Lib.hid hbw5
        have ENC := Lib.hid enc
        have HBXC := Lib.hid bx
        have hncI : (nc : Int) ≤ 1000 := by omega
        -- the two rows as they lie
        obtain ⟨r1, r2, r3, r4, r5, _, _⟩ := HKR.out
        obtain ⟨g9, c9, e9, _, hc9⟩ := (r1.below hb5).form (by omega)
        obtain ⟨g10, c10, e10, _, hc10⟩ := (r2.below hb5).form (by omega)
        rw [r3] at e9
        rw [r4] at e10
        subst e9 e10
        have HC9 := Lib.hid hc9
        have HC10 := Lib.hid hc10
        have HPR := Lib.hid r5
        have HL9 : Hid (ca.length = n ∧ sa.length = n) := Lib.hid ⟨r3, r4⟩
        have hnI : (n : Int) ≤ 31 := by omega
        clear hl5 hb5 hr5 hst5 hbw5 bx enc hca5 hpk eat hlb r1 r2 r3 r4 r5 hc9 hc10 HKR HKS
        go_wp2_with fail
        go_quiet (first | (go_at_call 19; exact Calls.quiet_of_same (HCA5.out _)) | (go_at_call 30; exact Calls.quiet_of_same (HPK.out _)))
        obtain ⟨w6, e6⟩ : ∃ w6, w6 = w5.drewN nq := ⟨_, rfl⟩
        have hb6 : Below w5.heap.size w5 w6 := by rw [e6]; exact below_drewN _ _ _
        have hs6 : w6.heap.size = w5.heap.size := by rw [e6]; rfl
        have hst6 := HST5.out.below hb6
        have hc9' : ∀ (i n : Nat), ca[i]? = some n → w6.cell? ⟨g9, i, none⟩ = some (.int .i64 (n : Int)) := fun i n h => by rw [e6]; exact HC9.out i n h
        have hc10' : ∀ (i n : Nat), sa[i]? = some n → w6.cell? ⟨g10, i, none⟩ = some (.int .i64 (n : Int)) := fun i n h => by rw [e6]; exact HC10.out i n h
        have b3' : w6.cell? ⟨w.heap.size, 3, none⟩ = some (.slice o1.K o1.keep.length o1.kcap) := by rw [e6]; exact b3
        have b4' : w6.cell? ⟨w.heap.size, 4, none⟩ = some (.int .i64 o1.torn) := by rw [e6]; exact b4
        rw [← e6]
        have HB6 := Lib.hid hb6
        have HS6 := Lib.hid hs6
        have HST6 := Lib.hid hst6
        have HC9' := Lib.hid hc9'
        have HC10' := Lib.hid hc10'
        clear e6 hb6 hs6 hst6 hc9' hc10' b1 b3 b4
        have hatI : (at_ : Int) ≤ 1000 := by omega
        go_wp2_with fail
        go_loop [15, 16] (fun lv kv => ∃ k L : Nat, kv = .int .i64 (k : Int) ∧ lv = .int .i64 (L : Int) ∧ k ≤ n ∧ Hid (Sured cs rs at_ L)) (fun _ kv => n - (intOf kv).toNat)
        case atStart => exact ⟨0, 0, rfl, rfl, Nat.zero_le _, Lib.hid (.inl rfl)⟩
        case round =>
          obtain ⟨k, L, rfl, rfl, hk, HSU⟩ := hrel
          by_cases hkn : k < n
          · obtain ⟨c, hc⟩ : ∃ c, ca[k]? = some c := ⟨ca[k]'(by have := HL9.out.1; omega), List.getElem?_eq_getElem _⟩
            obtain ⟨s, hs⟩ : ∃ s, sa[k]? = some s := ⟨sa[k]'(by have := HL9.out.2; omega), List.getElem?_eq_getElem _⟩
            have k9 := HC9'.out k c hc
            have k10 := HC10'.out k s hs
            obtain ⟨hcl, hsr⟩ := HPR.out k c s hc hs
            have HSR := Lib.hid hsr
            have hkI : (k : Int) < (n : Int) := by omega
            have hk0 : (0 : Int) ≤ (k : Int) := by omega
            clear hc hs hsr hcl
            by_cases hca : c ≤ at_
            · have hcaI : decide ((c : Int) ≤ (at_ : Int)) = true := by simp; omega
              have hcaN : decide (c ≤ at_) = true := by simp; omega
              have HCA' := Lib.hid hca
              clear hca
              go_wp2_with fail
              go_round
              case rel => exact ⟨k + 1, s, by go_num, rfl, by omega, Lib.hid (HSR.out.later HCA'.out)⟩
              case measure => simp [intOf]; omega
            · have hcaI : decide ((c : Int) ≤ (at_ : Int)) = false := by simp; omega
              have hcaN : decide (c ≤ at_) = false := by simp; omega
              clear hca
              go_wp2_with fail
              go_round
              case rel => exact ⟨k + 1, L, by go_num, rfl, by omega, HSU⟩
              case measure => simp [intOf]; omega
          · have hkI : ¬ (k : Int) < (n : Int) := by omega
            have hcut := dk_cut HST6.out.1.1 (by omega) (at_ : Int) o1.torn o1.K o1.kcap o1.keep (wf_small at_ (by omega)) HO1.out.2.2.2.2.1 (HO1.out.2.1.below (HBW5.out.trans (HB6.out.mono HBW5.out.size))) (by have := HO1.out.2.2.2.2.2.2.2; unfold maxLen at this; omega)
            have HCUT := Lib.hid hcut
            clear hcut
            go_wp2_with fail
            go_at_call 18
            (with_reducible refine HCUT.out.mono ?_)
            rintro e w7 ⟨px, κ, rfl, hsy7, hd7, hb7⟩
            rw [red_self at_ (cs.length + 1) (by have := ENC.out; omega)] at hsy7 hd7
            obtain ⟨F1, eF1⟩ : ∃ F1, F1 = cutF (fun _ => none) (cs.take at_) κ o1.keep o1.torn := ⟨_, rfl⟩
            rw [← eF1] at hd7
            have hop := js_open hd7 0 12 (by omega) (by omega) (by omega) (by omega)
            rw [show ((0 : Nat) : Int) = 0 from rfl, show ((12 : Nat) : Int) = 12 from rfl] at hop
            have HOP := Lib.hid hop
            have HB7 := Lib.hid (HB6.out.trans (hb7.mono HB6.out.size))
            have HSY7 := Lib.hid hsy7
            have EF1 := Lib.hid eF1
            clear hsy7 hd7 hb7 eF1 hop b3' b4'
            go_wp2_with fail
            go_at_call 10
            (with_reducible refine HOP.out.mono ?_)
            rintro e w8 ⟨pj1, g1, Z1, was, u1, rfl, hs8, hj8, hn8, hz8, ht8⟩
            have hb8 : Below w5.heap.size w5 w8 := turned_new HB7.out (fun j hj => by have := HS6.out; omega) ht8
            have hre8 := js_records hj8 (by omega)
            have HRE8 := Lib.hid hre8
            have HB8 := Lib.hid hb8
            have HS8 := Lib.hid hs8
            have HJ8 := Lib.hid hj8
            clear hs8 hj8 hn8 hz8 ht8 hb8 hre8
            go_wp2_with fail
            go_at_call 24
            (with_reducible refine HRE8.out.mono ?_)
            rintro e w9 ⟨v9, rfl, hl9, hb9⟩
            obtain ⟨A9, d9, rfl, hr9⟩ := hl9.rows
            have hb59 : Below w5.heap.size w5 w9 := HB8.out.trans (hb9.mono HB8.out.size)
            have hj9 := HJ8.out.below hb9
            have hlw : w.heap.size < w5.heap.size := World.block_lt_of_cell? w5 ⟨w.heap.size, 1, none⟩ (HBXC.out 1 _ rfl)
            have y1 : w9.cell? ⟨w.heap.size, 6, none⟩ = some (.int .i64 o2.n) := (hb59.cell (p := ⟨w.heap.size, 6, none⟩) hlw).trans (HBXC.out 6 _ rfl)
            have y3 : w9.cell? ⟨w.heap.size, 8, none⟩ = some (.slice o2.K o2.keep.length o2.kcap) := (hb59.cell (p := ⟨w.heap.size, 8, none⟩) hlw).trans (HBXC.out 8 _ rfl)
            have y4 : w9.cell? ⟨w.heap.size, 9, none⟩ = some (.int .i64 o2.torn) := (hb59.cell (p := ⟨w.heap.size, 9, none⟩) hlw).trans (HBXC.out 9 _ rfl)
            have hcut := dk_cut hj9.1 (by omega) o2.n o2.torn o2.K o2.kcap o2.keep HO2.out.2.2.2.1 HO2.out.2.2.2.2.1 (HO2.out.2.1.below (HBW5.out.trans (hb59.mono HBW5.out.size))) (by have := HO2.out.2.2.2.2.2.2.2; unfold maxLen at this; omega)
            have HCUT2 := Lib.hid hcut
            have HB9 := Lib.hid hb59
            have HR9 := Lib.hid hr9
            clear hl9 hb9 hr9 hb59 hj9 hlw hcut
            go_wp2_with fail
            go_at_call 18
            (with_reducible refine HCUT2.out.mono ?_)
            rintro e w10 ⟨py, κ1, rfl, hsy10, hd10, hb10⟩
            obtain ⟨F2, eF2⟩ : ∃ F2, F2 = cutF F1 ((openCs (con F1 []) [] 0 12 u1).take (red o2.n ((openCs (con F1 []) [] 0 12 u1).length + 1))) κ1 o2.keep o2.torn := ⟨_, rfl⟩
            rw [← eF2] at hd10
            have hop := js_open hd10 0 12 (by omega) (by omega) (by omega) (by omega)
            rw [show ((0 : Nat) : Int) = 0 from rfl, show ((12 : Nat) : Int) = 12 from rfl] at hop
            have HOP2 := Lib.hid hop
            have HB10 := Lib.hid hb10
            have HSY10 := Lib.hid hsy10
            have EF2 := Lib.hid eF2
            clear hsy10 hd10 hb10 eF2 hop y1 y3 y4
            go_wp2_with fail
            go_at_call 10
            (with_reducible refine HOP2.out.mono ?_)
            rintro e w11 ⟨pj2, g2, Z2, now, u2, rfl, hs11, hj11, hn11, hz11, ht11⟩
            have hb11 : Below w9.heap.size w9 w11 := turned_new HB10.out (fun j hj => hj.1) ht11
            have hre11 := js_records hj11 (by omega)
            have HRE11 := Lib.hid hre11
            have HB11 := Lib.hid hb11
            have HS11 := Lib.hid hs11
            have HF2 := Lib.hid hj11.1.f32
            clear hs11 hj11 hn11 hz11 ht11 hb11 hre11
            go_wp2_with fail
            go_at_call 24
            (with_reducible refine HRE11.out.mono ?_)
            rintro e w12 ⟨v12, rfl, hl12, hb12⟩
            obtain ⟨A12, d12, rfl, hr12⟩ := hl12.rows
            have hb912 : Below w9.heap.size w9 w12 := HB11.out.trans (hb12.mono HB11.out.size)
            have hb512 : Below w5.heap.size w5 w12 := HB9.out.trans (hb912.mono HB9.out.size)
            have hra : RowsAt w12 A5 ls := (HR5.out.at).below hb512
            have hrw : RowsAt w12 A9 was := HR9.out.below hb912
            -- the law, as plain lists
            obtain ⟨s0, hs0, hs1, hls⟩ := HSU.out.least HST6.out.2.1 HSY7.out
            have hlaw := keeps_law none32 (by omega) HST6.out.2.1 zero_none HSY7.out o1.keep o1.torn hs0 hs1 EF1.out HS8.out HSY10.out o2.keep o2.torn EF2.out HS11.out
            have hlen9 : was.length ≤ 1000 := by
              have h1 := HS8.out.2.1
              have h2 := HS8.out.1
              have h3 := length_frames was
              have h4 := congrArg List.length h1
              rw [List.length_take] at h4
              rw [length_reg (con_all32 (cutF32' HST6.out.2.1.ok HSY7.out EF1.out) (fun c hc => by cases hc))] at h2
              omega
            have hlen12 : now.length ≤ 1000 := by
              have h1 := HS11.out.2.1
              have h2 := HS11.out.1
              have h3 := length_frames now
              have h4 := congrArg List.length h1
              rw [List.length_take] at h4
              rw [length_reg (con_all32 HF2.out (fun c hc => by cases hc))] at h2
              omega
            have hlenA : ls.length ≤ 1000 := by
              have h2 := HST6.out.2.1.fits
              have h3 := length_frames ls
              omega
            obtain ⟨la, ela⟩ : ∃ la, la = ls.length := ⟨_, rfl⟩
            obtain ⟨lw, elw⟩ : ∃ lw, lw = was.length := ⟨_, rfl⟩
            obtain ⟨ln, eln⟩ : ∃ ln, ln = now.length := ⟨_, rfl⟩
            have hst1 := strange_any A9 A5 was ls d9 c5 lw la w12 hrw hra elw ela (by unfold maxLen; omega) (by unfold maxLen; omega)
            have hst2 : ∀ N, Calls Try.prog 31 #[.slice A12 ln d12, .slice A5 la c5] (w12.drewN N) (StrAns now ls (w12.drewN N)) := fun N => strange_any A12 A5 now ls d12 c5 ln la (w12.drewN N) (hr12.below (below_drewN _ _ N)) (hra.below (below_drewN _ _ N)) eln ela (by unfold maxLen; omega) (by unfold maxLen; omega)
            have hsm : now = was → ∀ N, Calls Try.prog 23 #[.slice A12 lw d12, .slice A9 lw d9] (w12.drewN N) (SameAns (w12.drewN N)) := fun e N => same04_any A12 A9 was d12 d9 lw (w12.drewN N) ((e ▸ hr12).below (below_drewN _ _ N)) (hrw.below (below_drewN _ _ N)) elw (by unfold maxLen; omega)
            have hfin : ∀ N, Below w.heap.size w (w12.drewN N) := fun N => (HBW5.out.trans (hb512.mono HBW5.out.size)).trans ((below_drewN w12.heap.size w12 N).mono (HBW5.out.trans (hb512.mono HBW5.out.size)).size)
            have HST1 := Lib.hid hst1
            have HST2 := Lib.hid hst2
            have HSM := Lib.hid hsm
            have HFIN := Lib.hid hfin
            have HLAW := Lib.hid hlaw
            have HLS := Lib.hid hls
            have ELW := Lib.hid elw
            have ELN := Lib.hid eln
            rw [← ela, ← elw, ← eln]
            have hlw1 : (lw : Int) ≤ 1000 := by omega
            clear hl12 hr12 hb12 hb912 hb512 hra hrw hst1 hst2 hsm hfin hlaw hls elw eln ela hlen9 hlen12 hlenA hs0 hs1
            go_wp2_with fail
            go_at_call 31
            (with_reducible refine HST1.out.mono ?_)
            rintro e w13 ⟨b1, rfl, hb1, N13, rfl⟩
            cases b1 with
            | true =>
              clear hb1
              go_wp2_with fail
              go_ret
              exact ⟨rfl, HFIN.out _⟩
            | false =>
              have HX1 : Hid (¬ Strange was ls) := Lib.hid (fun h => by have := hb1.2 h; cases this)
              clear hb1
              go_wp2_with fail
              go_at_call 31
              (with_reducible refine (HST2.out _).mono ?_)
              rintro e w14 ⟨b2, rfl, hb2, N14, rfl⟩
              rw [World.drewN_drewN]
              cases b2 with
              | true =>
                clear hb2
                go_wp2_with fail
                go_ret
                exact ⟨rfl, HFIN.out _⟩
              | false =>
                have hx2 : ¬ Strange now ls := fun h => by have := hb2.2 h; cases this
                obtain ⟨hnw, hsl⟩ := HLAW.out HX1.out hx2
                have hll : ln = lw := by rw [ELN.out, ELW.out, hnw]
                have hsm := HSM.out hnw
                have hge : decide ((L : Int) ≤ (lw : Int)) = true := by simp; have := HLS.out; have := ELW.out; omega
                have hgeN : decide (L ≤ lw) = true := by simp; have := HLS.out; have := ELW.out; omega
                have HSM2 := Lib.hid hsm
                rw [hll]
                clear hb2 hx2 hnw hsl hll hsm
                go_wp2_with fail
                go_at_call 23
                (with_reducible refine (HSM2.out _).mono ?_)
                rintro e w15 ⟨rfl, N15, rfl⟩
                rw [World.drewN_drewN]
                go_wp2_with fail
                go_ret
                exact ⟨rfl, HFIN.out _⟩
end Go.Proofs.Ytpfdlcogldbocaa
