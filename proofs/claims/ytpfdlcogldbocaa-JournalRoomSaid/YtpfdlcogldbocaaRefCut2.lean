/-
  The walk of the reference's Cut: it returns a new disk, whose blocks are what the kept calls leave. Conditions: the disk lies in memory as RefIs says, its writes are to blocks that it has, its bytes lie in blocks older than the call.
-/
import Derived.Test.YtpfdlcogldbocaaRefCut1
namespace Go.Proofs.Ytpfdlcogldbocaa
open Go.RowKit Go.Maps
attribute [local go_sem ↓] Go.wp_at_zero Go.wp_at_succ

/-- What the reference's Cut returns. -/
def RefCutIs (w : World) (Y : Nat → Prop) (n : Nat) (B : Int → List UInt8) (T : List CallM) (e : Ending) (w' : World) : Prop :=
  ∃ py vBy Yn, e = .returned (.pointer (some ⟨py, 0, none⟩)) ∧ RefIs w' Yn py n vBy (.slice none 0 0) (fun x => rdTo B T x T.length) [] ∧ (∀ j, Yn j → ¬ refFoot py vBy (.slice none 0 0) j) ∧ (∀ j, Yn j → Y j ∨ w.heap.size ≤ j) ∧ (∀ j, refFoot py vBy (.slice none 0 0) j → w.heap.size ≤ j) ∧ (∀ j, Yn j → j < w'.heap.size) ∧ Below w.heap.size w w'

/-- Behind i rounds of the loop that keeps. -/
def KeptRel (w : World) (Y : Nat → Prop) (l : List CallM) (safe : Nat) (ks : List Bool) (i : Nat) (kv : Value) (wr : World) : Prop :=
  ∃ rows, wr.ownsRow w.heap.size 79 2 kv (keepTo l safe ks i).length rows ∧ RefLike wr Y (keepTo l safe ks i) rows ∧ Below w.heap.size w wr
theorem othersTo_le (l : List CallM) (safe : Nat) : ∀ i, othersTo l safe i ≤ i
  | 0 => Nat.le_refl _
  | i + 1 => by
    have := othersTo_le l safe i
    rw [othersTo_succ]
    split <;> omega
theorem keepTo_len (l : List CallM) (safe : Nat) (ks : List Bool) : ∀ i, (keepTo l safe ks i).length ≤ i
  | 0 => Nat.le_refl _
  | i + 1 => by
    have := keepTo_len l safe ks i
    rw [keepTo_succ]
    split
    · simp; omega
    · omega
theorem KeptRel.same {w wr : World} {Y : Nat → Prop} {l : List CallM} {safe : Nat} {ks : List Bool} {i : Nat} {kv : Value} (h : KeptRel w Y l safe ks i kv wr) (e : keepTo l safe ks (i + 1) = keepTo l safe ks i) : KeptRel w Y l safe ks (i + 1) kv wr := by
  unfold KeptRel
  rw [e]
  exact h
theorem KeptRel.push {w wr W w7 : World} {Y : Nat → Prop} {l : List CallM} {safe : Nat} {ks : List Bool} {i : Nat} {kv : Value} {rows : List Value} {c : CallM} {y : Value} {gg cap : Nat} (hown : wr.ownsRow w.heap.size 79 2 kv (keepTo l safe ks i).length rows) (hlike : RefLike wr Y (keepTo l safe ks i) rows) (hb : Below w.heap.size w wr)
    (hY : ∀ j, Y j → j < w.heap.size) (hb2 : Below wr.heap.size wr W) (hgrow : W.grownBy w7 kv.ownBlock)
    (hown1 : w7.ownsRow w.heap.size 79 2 (.slice (some ⟨gg, 0, none⟩) ((keepTo l safe ks i).length + 1) cap) ((keepTo l safe ks i).length + 1) (rows ++ [.int .i64 c.n, y])) (hs : c.sync = false) (hy : BS w Y y c.bytes)
    (e : keepTo l safe ks (i + 1) = keepTo l safe ks i ++ [c]) : KeptRel w Y l safe ks (i + 1) (.slice (some ⟨gg, 0, none⟩) ((keepTo l safe ks i).length + 1) cap) w7 := by
  have hle := hb.size
  have vge : ∀ k, kv.ownBlock = some k → w.heap.size ≤ k := fun k hk => (hown.lt k hk).1
  have hb7 : Below w.heap.size w w7 := (hb.trans (hb2.mono hle)).grown hgrow (Nat.le_trans hle hb2.size) vge
  have t7 : Turned (fun j => w.heap.size ≤ j) wr w7 := (Turned.of_below (S := fun j => w.heap.size ≤ j) hb2).trans (turned_grown hgrow (Below.refl _ _) |> fun h => ⟨h.os, h.tape, h.output, h.size, fun i hi hn => h.block i hi (fun hk => hn (vge i hk))⟩) (fun _ _ h => h)
  unfold KeptRel
  rw [e]
  refine ⟨rows ++ [.int .i64 (if c.sync then -1 else c.n), y], ?_, hlike.push hown.1 (fun v l h => h.turned t7 (fun j hj hge => by have := hY j hj; omega)) (fun _ => hy.turned (Turned.of_below (S := fun j => w.heap.size ≤ j) hb7) (fun j hj hge => by have := hY j hj; omega)), hb7⟩
  rw [hs, if_neg (by decide), List.length_append]
  exact hown1

theorem kv_form {w : World} {base size n : Nat} {e : TypeId} {v : Value} {xs : List Value} (h : w.ownsRow base e size v n xs) : ∃ A c, v = .slice A n c := by
  rcases h.2 with ⟨rfl, h0⟩ | ⟨g, cap, cur, rfl, _⟩
  · exact ⟨none, 0, by rw [h0]⟩
  · exact ⟨_, _, rfl⟩
theorem ref_slice_to {W : World} {A : Option Addr} {n cap k : Nat} (hk : k ≤ cap) (_hc : cap ≤ maxLen) : (Instr.sliceAt 50 (.slice A n cap) none (some (.int .i64 (k : Int))) none).run Try.prog W = .ok (.slice A k cap) W := by
  unfold maxLen at _hc
  have h1 : (k : Int) ≤ (cap : Int) := by omega
  have h0 : (0 : Int) ≤ (k : Int) := by omega
  go_simp

set_option maxRecDepth 100000 in
set_option maxHeartbeats 8000000 in
theorem ref_cut (Y : Nat → Prop) (p n : Nat) (vB vL : Value) (B : Int → List UInt8) (cs : List CallM) (w : World) (h : RefIs w Y p n vB vL B cs) (at_ torn : Int) (K : Option Addr) (kcap : Nat) (ks : List Bool) (hn : n ≤ 65536) (hc : cs.length ≤ 1048576) (hpos : ∀ c ∈ cs, c.sync = false → 0 ≤ c.n ∧ c.n < n)
    (hat : (Lit.int .i64 at_).wf = true) (htorn : (Lit.int .i64 torn).wf = true) (hks : BoolsAt w K ks) (hkl : ks.length ≤ 9223372036854775807) (hYlt : ∀ j, Y j → j < w.heap.size) (hsep : ∀ j, Y j → ¬ refFoot p vB vL j) (l : List CallM) (safe : Nat) (hl : l = cs.take (red at_ (cs.length + 1))) (hsafe0 : safe = safeTo l l.length) (size : Nat → Nat) (hsize : ∀ j : Nat, size j = if (j : Int) = lastKept l safe ks l.length then red torn 33 else 32) :
    Calls Try.prog 20 #[.pointer (some ⟨p, 0, none⟩), .int .i64 at_, .slice K ks.length kcap, .int .i64 torn] w (RefCutIs w Y n B (tornTo B (keepTo l safe ks l.length) size (keepTo l safe ks l.length).length)) := by
  have hr := Lib.hid h
  have HKS := Lib.hid hks
  obtain ⟨hbox, ⟨bs, hB, _⟩, ⟨rows, hL, hLs⟩⟩ := h
  obtain ⟨BA, bcap, rfl⟩ := kv_form hB
  clear hB
  obtain ⟨LA, lcap, rfl, hcl⟩ := ref_calls hL hLs
  have HCL := Lib.hid hcl
  have z2 : w.cell? ⟨p, 2, none⟩ = some (.slice LA cs.length lcap) := cell_of_row _ _ 2 _ _ _ hbox
  have z0 : w.cell? ⟨p, 0, none⟩ = some (.int .i64 (n : Int)) := cell_of_row _ _ 0 _ _ _ hbox
  have z1 : w.cell? ⟨p, 1, none⟩ = some (.slice BA n bcap) := cell_of_row _ _ 1 _ _ _ hbox
  obtain ⟨m, hm⟩ : ∃ m, m = red at_ (cs.length + 1) := ⟨_, rfl⟩
  have hm1 : m ≤ cs.length := by have := red_lt at_ (cs.length + 1) (by omega); omega
  have hpick := pick_any at_ (cs.length + 1) w.drew hat (by omega) (by omega)
  rw [← hm] at hpick
  have e1 : ((cs.length + 1 : Nat) : Int) = (cs.length : Int) + 1 := by omega
  rw [e1] at hpick
  have HP := Lib.hid hpick
  have hwr : IntKind.i64.wrap ((cs.length : Int) + 1) = (cs.length : Int) + 1 := IntWalk.i64_in _ (by omega)
  have hlc : cs.length ≤ lcap := by
    rcases hL.2 with ⟨e, h0⟩ | ⟨g, cap, cur, e, _, _, hle, _⟩
    · omega
    · injection e with _ _ e; omega
  have hmI : (m : Int) ≤ (lcap : Int) := by omega
  have hm0 : (0 : Int) ≤ (m : Int) := by omega
  have hlm : lcap ≤ maxLen := by
    rcases hL.2 with ⟨e, h0⟩ | ⟨g, cap, cur, e, _, _, _, hle, _⟩
    · injection e with _ _ e; omega
    · injection e with _ _ e; omega
  have hsl := fun W => ref_slice_to (W := W) (A := LA) (n := cs.length) (show m ≤ lcap by omega) hlm
  rw [← hm] at hl
  have HSEP := Lib.hid hsep
  have HSIZE := Lib.hid hsize
  have HS0 := Lib.hid hsafe0
  clear hsep hsize hsafe0
  have hll : l.length = m := by rw [hl, List.length_take]; omega
  have hlc2 : ∀ i c, l[i]? = some c → cs[i]? = some c := fun i c h => by
    rw [hl, List.getElem?_take] at h
    split at h
    · exact h
    · cases h
  have HM := Lib.hid hm
  have HLL := Lib.hid hll
  have HLI := Lib.hid hlc2
  have HL := Lib.hid hl
  clear hm hll hlc2 hl hlm
  have HPOS := Lib.hid hpos
  clear hpick e1 hcl hL hLs hbox hks hpos
  go_enter Try.func20, Try.ntmps20
  go_wp2_with fail
  go_region_held3 (fun x => x.cell? ⟨p, 2, none⟩ = some (.slice LA cs.length lcap))
    (first | assumption | exact z2)
    ((go_at_call 30; (with_reducible refine HP.out.mono ?_); rintro e w2 ⟨rfl, rfl⟩))
  go_wp2_with fail
  go_loop [10, 11] (fun ss ii => ∃ i : Nat, ii = .int .i64 (i : Int) ∧ i ≤ m ∧ ss = .int .i64 (safeTo l i : Int)) (fun _ ii => m - (intOf ii).toNat)
  case atStart => exact ⟨0, rfl, Nat.zero_le _, rfl⟩
  case round =>
    obtain ⟨i, rfl, hi, rfl⟩ := hrel
    by_cases him : i < m
    · obtain ⟨c, hc1⟩ : ∃ c, l[i]? = some c := ⟨_, List.getElem?_eq_getElem (by rw [HLL.out]; exact him)⟩
      have hc2 := HLI.out i c hc1
      obtain ⟨g, v, rfl, c1, _, _⟩ := HCL.out i c hc2
      have hst : safeTo l (i + 1) = if c.sync then i else safeTo l i := by
        show (if (l.getD i syncM).sync then i else safeTo l i) = _
        rw [List.getD_eq_getElem?_getD, hc1]; rfl
      have hii : (i : Int) < (m : Int) := by omega
      have hi0 : (0 : Int) ≤ (i : Int) := by omega
      cases hs : c.sync with
      | true =>
        rw [hs, if_pos rfl] at hst
        rw [hs, if_pos rfl] at c1
        have HST := Lib.hid hst
        clear hst hc1 hc2 hs
        go_wp2_with fail
        go_round
        case rel => exact ⟨i + 1, by go_num, by omega, by rw [HST.out]⟩
        case measure => simp [intOf]; omega
      | false =>
        rw [hs, if_neg (by decide)] at hst
        rw [hs, if_neg (by decide)] at c1
        have hp := (HPOS.out c (List.mem_of_getElem? hc2) hs).1
        have HST := Lib.hid hst
        clear hst hc1 hc2 hs
        go_wp2_with fail
        go_round
        case rel => exact ⟨i + 1, by go_num, by omega, by rw [HST.out]⟩
        case measure => simp [intOf]; omega
    · have hii : (m : Int) ≤ (i : Int) := by omega
      have hie : i = m := by omega
      have hsafe : safeTo l i = safeTo l l.length := by rw [hie, HLL.out]
      have hsf : safeTo l i = safe := by rw [hsafe, HS0.out]
      rw [hsf]
      have HSF := HS0
      clear hsafe hsf hie
      have hs0 : safe ≤ m := by
        rw [HSF.out]
        have key : ∀ j, safeTo l j ≤ j := by
          intro j
          induction j with
          | zero => exact Nat.le_refl _
          | succ j ih =>
            unfold safeTo
            split <;> omega
        have := key l.length
        have e := HLL.out
        omega
      obtain ⟨i0, hi0, hz0, hz1, hz2⟩ := info_parts info_ref_call
      have HY := Lib.hid hYlt
      clear hYlt
      go_wp2_with fail
      go_loopw [12, 13, 14, 15] (fun kv oo la ii wr => ∃ i : Nat, ii = .int .i64 (i : Int) ∧ i ≤ m ∧ oo = .int .i64 (othersTo l safe i : Int) ∧ la = .int .i64 (lastKept l safe ks i) ∧ KeptRel w Y l safe ks i kv wr) (fun _ _ _ ii _ => m - (intOf ii).toNat)
      case atStart => exact ⟨0, rfl, Nat.zero_le _, rfl, rfl, [], World.ownsRow_nil _ _ _ _, (fun i c h => by cases h), (Below.refl _ w).drew⟩
      case round =>
        obtain ⟨i, rfl, hi, rfl, rfl, hk⟩ := hrel
        by_cases him : i < m
        · obtain ⟨c, hc1⟩ : ∃ c, l[i]? = some c := ⟨_, List.getElem?_eq_getElem (by rw [HLL.out]; exact him)⟩
          have hc2 := HLI.out i c hc1
          obtain ⟨g, v, rfl, c1w, c2w, hbs⟩ := HCL.out i c hc2
          have eg : l.getD i syncM = c := by rw [List.getD_eq_getElem?_getD, hc1]; rfl
          have hii : (i : Int) < (m : Int) := by omega
          have hi0' : (0 : Int) ≤ (i : Int) := by omega
          have ek := keepTo_succ l safe ks i
          have eo := othersTo_succ l safe i
          have el := lastKept_succ l safe ks i
          rw [eg] at ek eo el
          obtain ⟨rows, hown, hlike, hb⟩ := hk
          obtain ⟨KA, kcp, rfl⟩ := kv_form hown
          have lgw := World.block_lt_of_cell? w _ c1w
          have c1 := (hb.cell (p := ⟨g, i * 2, none⟩) lgw).trans c1w
          have c2 := (hb.cell (p := ⟨g, i * 2 + 1, none⟩) lgw).trans c2w
          cases hs : c.sync with
          | true =>
            rw [if_neg (by rw [hs]; simp)] at ek eo el
            rw [hs, if_pos rfl] at c1
            have HK : Hid (KeptRel w Y l safe ks (i + 1) _ wr) := KeptRel.same ⟨rows, hown, hlike, hb⟩ ek
            have HEO := Lib.hid eo
            have HEL := Lib.hid el
            clear ek eo el hown hlike hb c1w c2w hbs hc1 hc2 eg hs
            go_wp2_with fail
            go_roundw
            case rel => exact ⟨i + 1, by go_num, by omega, by rw [HEO.out], by rw [HEL.out], HK.out⟩
            case measure => simp [intOf]; omega
          | false =>
            rw [hs, if_neg (by decide)] at c1
            have hp := (HPOS.out c (List.mem_of_getElem? hc2) hs).1
            have hby := hbs hs
            obtain ⟨A2, cap2, rfl, _⟩ := hbs hs
            have hkl2 := keepTo_len l safe ks i
            have hol := othersTo_le l safe i
            have hle := hb.size
            have ebool := hs
            simp only [hs, true_and] at ek eo el
            have HS := Lib.hid hs
            have HOW := Lib.hid hown
            have HLK := Lib.hid hlike
            have HBB := Lib.hid hb
            have HBY := Lib.hid hby
            clear hs ebool hown hlike hby hbs c1w c2w hc1 hc2 eg
            by_cases hsi : i < safe
            · rw [if_pos (.inl hsi)] at ek
              rw [if_neg (by omega)] at eo
              rw [if_neg (fun h => by omega)] at el
              have hsI : (i : Int) < (safe : Int) := by omega
              clear hb
              have HEK := Lib.hid ek
              have HEO := Lib.hid eo
              have HEL := Lib.hid el
              clear ek eo el
              go_wp2_with (at_builtin; refine wpList_append_lies _ rfl _ _ _ rfl w.heap.size 79 i0 _ 2 32 Try.underlying50 hi0 hz0 hz1 hz2 (by rfl) (by omega) _ (keepTo l safe ks i).length rows rfl (HOW.out.alloc _) ⟨wr.heap.size, 0, none⟩ 1 1 [.int .i64 c.n, .slice A2 32 cap2] rfl rfl (World.news_of_block (cs := #[.int .i64 c.n, .slice A2 32 cap2]) (t := 79) (fr := (0, 0)) (heap_alloc_new wr _)) (by simp [Value.oneCell']) (by omega) (by unfold maxLen; omega) (by omega) (by simp; omega) (wr.heap.size + 1) (by simp) ?_; intro gg cap1 w7 hown1 hgrow hat hlt1)
              go_roundw
              case rel => exact ⟨i + 1, by go_num, by omega, by rw [HEO.out], by rw [HEL.out], KeptRel.push HOW.out HLK.out HBB.out HY.out ((Below.refl _ _).alloc (Nat.le_refl _) _) hgrow hown1 HS.out HBY.out HEK.out⟩
              case measure => simp [intOf]; omega
            · have hsI : (safe : Int) ≤ (i : Int) := by omega
              rw [if_pos (by omega)] at eo
              obtain ⟨ot, hot⟩ : ∃ ot, ot = othersTo l safe i := ⟨_, rfl⟩
              rw [← hot] at eo el ek hol ⊢
              have eo' : othersTo l safe (i + 1) = ot + 1 := eo
              clear eo
              have eo := eo'
              clear eo'
              rcases Nat.lt_or_ge ot ks.length with hok | hok
              · have hoI : (ot : Int) < (ks.length : Int) := by omega
                have ho0 : (0 : Int) ≤ (ot : Int) := by omega
                obtain ⟨b, hkb⟩ : ∃ b, ks[ot]? = some b := ⟨_, List.getElem?_eq_getElem hok⟩
                obtain ⟨kg, ko, rfl, hkc⟩ := HKS.out ot b hkb
                have ck := (hb.cell (p := ⟨kg, ko + ot, none⟩) (World.block_lt_of_cell? w _ hkc)).trans hkc
                have egd : ks.getD ot false = b := by rw [List.getD_eq_getElem?_getD, hkb]; rfl
                rw [egd] at ek el
                clear hb hkb hkc egd
                cases b with
                | true =>
                  rw [if_pos (.inr rfl)] at ek
                  rw [if_pos ⟨by omega, rfl⟩] at el
                  clear hot
                  have HEK := Lib.hid ek
                  have HEO := Lib.hid eo
                  have HEL := Lib.hid el
                  clear ek eo el
                  go_wp2_with (at_builtin; refine wpList_append_lies _ rfl _ _ _ rfl w.heap.size 79 i0 _ 2 32 Try.underlying50 hi0 hz0 hz1 hz2 (by rfl) (by omega) _ (keepTo l safe ks i).length rows rfl (HOW.out.alloc _) ⟨wr.heap.size, 0, none⟩ 1 1 [.int .i64 c.n, .slice A2 32 cap2] rfl rfl (World.news_of_block (cs := #[.int .i64 c.n, .slice A2 32 cap2]) (t := 79) (fr := (0, 0)) (heap_alloc_new wr _)) (by simp [Value.oneCell']) (by omega) (by unfold maxLen; omega) (by omega) (by simp; omega) (wr.heap.size + 1) (by simp) ?_; intro gg cap1 w7 hown1 hgrow hat hlt1)
                  go_roundw
                  case rel => exact ⟨i + 1, by go_num, by omega, by rw [HEO.out]; go_num, by rw [HEL.out], KeptRel.push HOW.out HLK.out HBB.out HY.out ((Below.refl _ _).alloc (Nat.le_refl _) _) hgrow hown1 HS.out HBY.out HEK.out⟩
                  case measure => simp [intOf]; omega
                | false =>
                  rw [if_neg (fun h => by rcases h with h | h; omega; cases h)] at ek
                  rw [if_neg (fun h => by cases h.2)] at el
                  clear hot
                  have HEK := Lib.hid ek
                  have HEO := Lib.hid eo
                  have HEL := Lib.hid el
                  clear ek eo el
                  go_wp2_with fail
                  go_roundw
                  case rel => exact ⟨i + 1, by go_num, by omega, by rw [HEO.out]; go_num, by rw [HEL.out], KeptRel.same ⟨rows, HOW.out, HLK.out, HBB.out⟩ HEK.out⟩
                  case measure => simp [intOf]; omega
              · have hoI : (ks.length : Int) ≤ (ot : Int) := by omega
                have egd : ks.getD ot false = false := by rw [List.getD_eq_getElem?_getD, List.getElem?_eq_none hok]; rfl
                rw [egd] at ek el
                rw [if_neg (fun h => by rcases h with h | h; omega; cases h)] at ek
                rw [if_neg (fun h => by cases h.2)] at el
                clear hb egd hot
                have HEK := Lib.hid ek
                have HEO := Lib.hid eo
                have HEL := Lib.hid el
                clear ek eo el
                go_wp2_with fail
                go_roundw
                case rel => exact ⟨i + 1, by go_num, by omega, by rw [HEO.out]; go_num, by rw [HEL.out], KeptRel.same ⟨rows, HOW.out, HLK.out, HBB.out⟩ HEK.out⟩
                case measure => simp [intOf]; omega
        · have hii : (m : Int) ≤ (i : Int) := by omega
          obtain ⟨KA, kcp, rfl⟩ : ∃ A c, _ = Value.slice A (keepTo l safe ks i).length c := by
            obtain ⟨rows, hown, _, _⟩ := hk
            exact kv_form hown
          have hie : i = m := by omega
          have HIE := Lib.hid hie
          have HK := Lib.hid hk
          clear hie hk
          have HB2 : Hid (Below w.heap.size w wr) := by
            obtain ⟨_, _, _, hb⟩ := HK.out
            exact Lib.hid hb
          have lp : p < w.heap.size := World.block_lt_of_cell? w _ z2
          have lpr : p < wr.heap.size := Nat.lt_of_lt_of_le lp HB2.out.size
          have y0 : wr.cell? ⟨p, 0, none⟩ = some (.int .i64 (n : Int)) := (HB2.out.cell (p := ⟨p, 0, none⟩) lp).trans z0
          have y1 : wr.cell? ⟨p, 1, none⟩ = some (.slice BA n bcap) := (HB2.out.cell (p := ⟨p, 1, none⟩) lp).trans z1
          go_wp2_with fail
          go_region_held3 (fun x => x.cell? ⟨p, 0, none⟩ = some (.int .i64 (n : Int)) ∧ x.cell? ⟨p, 1, none⟩ = some (.slice BA n bcap))
            ((go_split_ands; refine ⟨?_, ?_⟩ <;> first | assumption | exact y0 | exact y1 | exact (World.cell?_alloc_lt wr.drew _ _ lpr).trans y0 | exact (World.cell?_alloc_lt wr.drew _ _ lpr).trans y1))
            (fail)
          go_wp2_with fail
          -- the disk x
          obtain ⟨w3, rfl⟩ : ∃ w3, w3 = wr := ⟨_, rfl⟩
          obtain ⟨rows, hown3, hlike3, hb3⟩ := HK.out
          have eim : i = l.length := by rw [HIE.out, HLL.out]
          obtain ⟨kp, hkp⟩ : ∃ kp, kp = keepTo l safe ks i := ⟨_, rfl⟩
          obtain ⟨la, hla⟩ : ∃ la, la = lastKept l safe ks i := ⟨_, rfl⟩
          have hkl0 := keepTo_len l safe ks i
          rw [← hkp] at hown3 hlike3 hkl0 ⊢
          rw [← hla]
          have hsz1 : ∀ j : Nat, (j : Int) ≠ la → size j = 32 := fun j hj => by rw [HSIZE.out, ← eim, ← hla, if_neg hj]
          have hsz2 : ∀ j : Nat, (j : Int) = la → size j = red torn 33 := fun j hj => by rw [HSIZE.out, ← eim, ← hla, if_pos hj]
          rw [← eim, ← hkp]
          have hmem : ∀ (j : Nat) (c : CallM), kp[j]? = some c → c.sync = false ∧ 0 ≤ c.n ∧ c.n < n := fun j c hc => by
            have h1 := keepTo_mem l safe ks i (by omega) c (by rw [← hkp]; exact List.mem_of_getElem? hc)
            obtain ⟨q, hq⟩ := List.getElem?_of_mem h1.1
            exact ⟨h1.2, HPOS.out c (List.mem_of_getElem? (HLI.out q c hq)) h1.2⟩
          have hX0 := XRel.start (kp := kp) (size := size) hr.out hb3 hown3 hlike3 HSEP.out HY.out
          have hkx : ∀ k, (Value.slice KA kp.length kcp).ownBlock = some k → k < w3.heap.size := fun k hk => (hown3.lt k hk).2
          have hwp := hb3.size
          have HX0 := Lib.hid hX0
          have HMEM := Lib.hid hmem
          have HKX := Lib.hid hkx
          have HSZ1 := Lib.hid hsz1
          have HSZ2 := Lib.hid hsz2
          have hpk := pick_any torn 33
          have hpick2 : ∀ w2 : World, Calls Try.prog 30 #[.int .i64 torn, .int .i64 33] w2 fun e w' => e = .returned (.int .i64 (red torn 33 : Int)) ∧ w2 = w' := fun w2 => hpk w2 htorn (by omega) (by omega)
          have HPK := Lib.hid hpick2
          obtain ⟨px, epx⟩ : ∃ px, px = w3.heap.size := ⟨_, rfl⟩
          rw [← epx] at hwp ⊢
          rw [← epx] at HX0 HKX
          have EPX := Lib.hid epx
          clear epx
          have HKP : Hid (kp = keepTo l safe ks l.length) := Lib.hid (by rw [hkp, eim])
          clear hX0 hmem hkx hsz1 hsz2 hpk hpick2 hown3 hlike3 hb3 hkp hla eim HK hr HSEP HSIZE HB2 y0 y1 lpr HLI HPOS HCL
          go_loopw [17] (fun ii wr => ∃ j : Nat, ii = .int .i64 (j : Int) ∧ j ≤ kp.length ∧ XRel w Y px n (.slice BA n bcap) (.slice KA kp.length kcp) rows B kp size j wr) (fun ii _ => kp.length - (intOf ii).toNat)
          case atStart => exact ⟨0, rfl, Nat.zero_le _, HX0.out⟩
          case round =>
            obtain ⟨j, rfl, hj, hX⟩ := hrel
            by_cases hjk : j < kp.length
            · obtain ⟨c, hc1⟩ : ∃ c, kp[j]? = some c := ⟨_, List.getElem?_eq_getElem hjk⟩
              obtain ⟨hcs, hcn0, hcn1⟩ := HMEM.out j c hc1
              obtain ⟨vLx, Y', hR, hY1, hY2, hYo, hpxv, hb, hk, hlk⟩ := hX
              obtain ⟨kg, A, cap, rfl, ck0, ck1, hbs⟩ := kept_cells hk hlk hc1 hcs
              obtain ⟨hby, hbl, ⟨hc32, hcm⟩, _⟩ := id hbs
              have htl := tornTo_len B kp size j
              obtain ⟨tl, etl⟩ : ∃ tl, tl = (tornTo B kp size j).length := ⟨_, rfl⟩
              obtain ⟨hbox, _, ⟨rx, hrx, hlx⟩⟩ := id hR
              have x2 : wr.cell? ⟨px, 2, none⟩ = some vLx := cell_of_row _ _ 2 _ _ _ hbox
              have fx := frozen_of_row wr px 2 _ _ hbox
              have lpx : px < wr.heap.size := World.block_lt_of_cell? wr _ x2
              have hkgp : kg < px := HKX.out kg rfl
              have nvx : vLx.ownBlock ≠ some px := own_ne hrx hbox (by decide)
              have nvk : vLx.ownBlock ≠ some kg := fun e => by have := hpxv kg e; omega
              have hjI : (j : Int) < (kp.length : Int) := by omega
              have hj0 : (0 : Int) ≤ (j : Int) := by omega
              have hkpm : kp.length ≤ maxLen := by unfold maxLen; omega
              have hjk' := hjk
              have hrl := ref_len hR hcn0 hcn1 _ (Nat.le_refl _)
              by_cases hjl : (j : Int) = la
              · have hread := ref_read Y' px n (.slice BA n bcap) vLx B (tornTo B kp size j) c.n wr hR hcn0 hcn1 hn (by omega)
                have HREAD := Lib.hid hread
                have hsz := HSZ2.out j hjl
                obtain ⟨k, ek⟩ : ∃ k, k = red torn 33 := ⟨_, rfl⟩
                have hk32 : k ≤ 32 := by have := red_lt torn 33 (by omega); omega
                rw [← ek] at hsz
                have HPK2 := HPK
                rw [← ek] at HPK2
                subst hjl
                have HHX := Lib.hid (And.intro hR (And.intro hrx (And.intro hlx (And.intro hY1 (And.intro hY2 (And.intro hYo (And.intro hpxv (And.intro hb (And.intro hk (And.intro hlk hbs))))))))))
                have HBY := Lib.hid hby
                have HC1 := Lib.hid hc1
                have HSZ := Lib.hid hsz
                have HTL := Lib.hid etl
                have HBOX := Lib.hid hbox
                have HNX := Lib.hid nvx
                have HNK := Lib.hid nvk
                have HRL := Lib.hid hrl
                have HTL2 := Lib.hid htl
                clear hread hR hrx hlx hY1 hY2 hYo hpxv hb hk hlk hbs hby hc1 hsz etl hbox nvx nvk hrl htl ek
                go_wp2_with fail
                go_at_call 28
                (with_reducible refine HREAD.out.mono ?_)
                rintro e w' ⟨v, rfl, hv, rfl⟩
                obtain ⟨A3, cap3, rfl, hb3, hl3, ⟨hc3, hcm3⟩, _⟩ := hv
                have HB3 := Lib.hid hb3
                have HL3 := Lib.hid hl3
                clear hb3 hl3
                go_wp2_with fail
                go_at_call 30
                (with_reducible refine (HPK2.out _).mono ?_)
                rintro e w' ⟨rfl, rfl⟩
                go_wp2_with fail
                obtain ⟨g1, c1, W1, gy, cy, Wy, hap1, hap2, hOw, hbW⟩ := torn_run HBY.out hbl HB3.out HL3.out hk32 hc3
                obtain ⟨A4, eA4⟩ : ∃ A4, A4 = (if cap3 = k then A3 else A3.map (·.add k)) := ⟨_, rfl⟩
                have hsf : ∀ W, (Instr.sliceAt 39 (.slice A3 32 cap3) (some (.int .i64 (k : Int))) none none).run Try.prog W = .ok (.slice A4 (32 - k) (cap3 - k)) W := fun W => by rw [eA4]; exact u8_slice_from hk32 hc3 hcm3
                rw [← eA4] at hap2
                clear eA4
                refine region_R (fun _ => True) (fun _ => false) #[false, false, false, false, false, false, false, false, false, false] 10 (by kernel_rfl) rfl rfl ?_
                refine AnyR.take (i := 1) (some 127) (.move (.tmp 18)) 39 (.slice A 32 cap) #[false, true, false, false, false, false, false, false, false, false] (by kernel_rfl) (by kernel_rfl) (by kernel_rfl) (by kernel_rfl) (by kernel_rfl) rfl (fun _ _ _ h => h) (fun _ _ => rfl) trivial ?_
                simp only [Act.put, List.setIfInBounds_toArray, List.set_cons_zero, List.set_cons_succ]
                refine AnyR.take (i := 2) (some 128) (.move (.tmp 21)) 3 (.int .i64 (k : Int)) #[false, true, true, false, false, false, false, false, false, false] (by kernel_rfl) (by kernel_rfl) (by kernel_rfl) (by kernel_rfl) (by kernel_rfl) rfl (fun _ _ _ h => h) (fun _ _ => rfl) trivial ?_
                simp only [Act.put, List.setIfInBounds_toArray, List.set_cons_zero, List.set_cons_succ]
                refine AnyR.take (i := 3) (some 129) (.slice 39 (.tmp 127) none (some (.tmp 128)) none) 39 (.slice A k cap) #[false, true, true, true, false, false, false, false, false, false] (by kernel_rfl) (by kernel_rfl) (by kernel_rfl) (by kernel_rfl) (by kernel_rfl) rfl (fun _ _ _ h => h) (fun _ _ => val_of (u8_slice_to (by omega) hcm)) trivial ?_
                simp only [Act.put, List.setIfInBounds_toArray, List.set_cons_zero, List.set_cons_succ]
                refine AnyR.take (i := 5) (some 131) (.move (.tmp 19)) 39 (.slice A3 32 cap3) #[false, true, true, true, false, true, false, false, false, false] (by kernel_rfl) (by kernel_rfl) (by kernel_rfl) (by kernel_rfl) (by kernel_rfl) rfl (fun _ _ _ h => h) (fun _ _ => rfl) trivial ?_
                simp only [Act.put, List.setIfInBounds_toArray, List.set_cons_zero, List.set_cons_succ]
                refine AnyR.take (i := 6) (some 132) (.move (.tmp 21)) 3 (.int .i64 (k : Int)) #[false, true, true, true, false, true, true, false, false, false] (by kernel_rfl) (by kernel_rfl) (by kernel_rfl) (by kernel_rfl) (by kernel_rfl) rfl (fun _ _ _ h => h) (fun _ _ => rfl) trivial ?_
                simp only [Act.put, List.setIfInBounds_toArray, List.set_cons_zero, List.set_cons_succ]
                refine AnyR.take (i := 7) (some 133) (.slice 39 (.tmp 131) (some (.tmp 132)) none none) 39 (.slice A4 (32 - k) (cap3 - k)) #[false, true, true, true, false, true, true, true, false, false] (by kernel_rfl) (by kernel_rfl) (by kernel_rfl) (by kernel_rfl) (by kernel_rfl) rfl (fun _ _ _ h => h) (fun _ _ => val_of (hsf _)) trivial ?_
                simp only [Act.put, List.setIfInBounds_toArray, List.set_cons_zero, List.set_cons_succ]
                refine AnyR.run (i := 0) (some 126) (.buildSlice 39 0 #[]) 39 (.slice (some ⟨wr.heap.size, 0, none⟩) 0 0) (wr.drew.alloc (.cells #[] 5)) #[true, true, true, true, false, true, true, true, false, false] (by kernel_rfl) (by kernel_rfl) rfl (by kernel_rfl) (fun _ => trivial) ?_
                simp only [Act.put, List.setIfInBounds_toArray, List.set_cons_zero, List.set_cons_succ]
                refine AnyR.run (i := 4) (some 130) (.call { callee := .builtin .append, args := #[.tmp 126, .tmp 129], argTypes := #[39, 39] }) 39 (.slice (some ⟨g1, 0, none⟩) k c1) (W1) #[true, true, true, true, true, true, true, true, false, false] (by kernel_rfl) (by kernel_rfl) rfl (append_of (s := .tmp 126) (x := .tmp 129) hap1 rfl rfl) (fun _ => trivial) ?_
                simp only [Act.put, List.setIfInBounds_toArray, List.set_cons_zero, List.set_cons_succ]
                refine AnyR.run (i := 8) (some 134) (.call { callee := .builtin .append, args := #[.tmp 130, .tmp 133], argTypes := #[39, 39] }) 39 (.slice (some ⟨gy, 0, none⟩) 32 cy) (Wy) #[true, true, true, true, true, true, true, true, true, false] (by kernel_rfl) (by kernel_rfl) rfl (append_of (s := .tmp 130) (x := .tmp 133) hap2 rfl rfl) (fun _ => trivial) ?_
                simp only [Act.put, List.setIfInBounds_toArray, List.set_cons_zero, List.set_cons_succ]
                refine AnyR.run (i := 9) (some 18) (.assign (.tmp 134)) 39 (.slice (some ⟨gy, 0, none⟩) 32 cy) (Wy) #[true, true, true, true, true, true, true, true, true, true] (by kernel_rfl) (by kernel_rfl) rfl (rfl) (fun _ => trivial) ?_
                simp only [Act.put, List.setIfInBounds_toArray, List.set_cons_zero, List.set_cons_succ]
                refine AnyR.none (by kernel_rfl) ?_ _
                obtain ⟨gg, cap1, w7, hap, hown7, hgrow, hat7, hglt⟩ := push_run (W := Wy) HHX.out.2.1 (by have := HTL2.out; omega) hbW c.n (some ⟨gy, 0, none⟩) cy
                have hbA : Below wr.heap.size wr (Wy.drew.alloc (.cells #[.int .i64 c.n, .slice (some ⟨gy, 0, none⟩) 32 cy] 79)) := (hbW).drew.alloc (hbW).size _
                have hys : BS (Wy.drew.alloc (.cells #[.int .i64 c.n, .slice (some ⟨gy, 0, none⟩) 32 cy] 79)) (fun q => Y' q ∨ q = gy) (.slice (some ⟨gy, 0, none⟩) 32 cy) (tear k (rdTo B (tornTo B kp size j) c.n (tornTo B kp size j).length) c.bytes) := ⟨_, cy, rfl, hOw.bytes.belowB (((Below.refl _ Wy).drew).alloc (Nat.le_refl _) _) (Nat.le_refl _), length_tear HL3.out hbl hk32, ⟨hOw.le, hOw.max⟩, fun g o e => by injection e with e; exact .inr (Addr.mk.inj e).1.symm⟩
                have hX' := XRel.push (Y2 := fun q => Y' q ∨ q = gy) (size := size) HHX.out.1 HHX.out.2.1 HHX.out.2.2.1 HHX.out.2.2.2.1 HHX.out.2.2.2.2.1 HHX.out.2.2.2.2.2.1 HHX.out.2.2.2.2.2.2.1 HHX.out.2.2.2.2.2.2.2.1 HHX.out.2.2.2.2.2.2.2.2.1 HHX.out.2.2.2.2.2.2.2.2.2.1 HKX.out hwp HY.out hbA hgrow hown7 hat7 hglt (fun _ h => .inl h) (fun q h => h.imp id (fun e => by rw [e]; exact ⟨hOw.ge, by have := hOw.lt; simp; omega⟩)) hys HC1.out (by rw [HSZ.out])
                rw [← HTL.out] at hX' hap
                have HX' := Lib.hid hX'
                have hS0 : Wy.drew.cell? ⟨px, 2, none⟩ = some vLx ∧ Wy.drew.cell? ⟨kg, j * 2, none⟩ = some (.int .i64 c.n) := ⟨((hbW).drew.cell (p := ⟨px, 2, none⟩) lpx).trans x2, ((hbW).drew.cell (p := ⟨kg, j * 2, none⟩) (Nat.lt_trans hkgp lpx)).trans ck0⟩
                have hS3 : (Wy.drew.alloc (.cells #[.int .i64 c.n, .slice (some ⟨gy, 0, none⟩) 32 cy] 79)).cell? ⟨px, 2, none⟩ = some vLx ∧ (Wy.drew.alloc (.cells #[.int .i64 c.n, .slice (some ⟨gy, 0, none⟩) 32 cy] 79)).cell? ⟨kg, j * 2, none⟩ = some (.int .i64 c.n) := ⟨(hbA.cell (p := ⟨px, 2, none⟩) lpx).trans x2, (hbA.cell (p := ⟨kg, j * 2, none⟩) (Nat.lt_trans hkgp lpx)).trans ck0⟩
                have hS4 : w7.cell? ⟨px, 2, none⟩ = some vLx ∧ w7.cell? ⟨kg, j * 2, none⟩ = some (.int .i64 c.n) := ⟨cell_grown hgrow hS3.1 HNX.out, cell_grown hgrow hS3.2 HNK.out⟩
                have hf4 : w7.frozen? ⟨px, 2, none⟩ = false := frozen_grown hgrow hS3.1 ((World.frozen?_of_block (hbA.block px lpx)).trans fx) HNX.out
                have HS0' := Lib.hid hS0
                have HS3 := Lib.hid hS3
                have HS4 := Lib.hid hS4
                have HF4 := Lib.hid hf4
                have HAP := Lib.hid hap
                clear hX' hap hown7 hgrow hat7 hglt hys hbA hS0 hS3 hS4 hf4
                go_wp2_with fail
                have hS0 := HS0'.out
                have hS3 := HS3.out
                have hS4 := HS4.out
                have hf4 := HF4.out
                have hap := HAP.out
                refine region_R (fun x => x.cell? ⟨px, 2, none⟩ = some vLx ∧ x.cell? ⟨kg, j * 2, none⟩ = some (.int .i64 c.n)) (fun i => i == 16) #[false, false, false, false, false, false, false, false, false, false, false, false, false, false, false, false, false] 17 (by kernel_rfl) rfl rfl ?_
                refine AnyR.take (i := 0) (some 135) (.move (.tmp 16)) 29 (.pointer (some ⟨px, 0, none⟩)) #[true, false, false, false, false, false, false, false, false, false, false, false, false, false, false, false, false] (by kernel_rfl) (by kernel_rfl) (by kernel_rfl) (by kernel_rfl) (by kernel_rfl) rfl (fun _ _ _ h => h) (fun _ _ => rfl) hS0 ?_
                simp only [Act.put, List.setIfInBounds_toArray, List.set_cons_zero, List.set_cons_succ]
                refine AnyR.take (i := 1) (some 136) (.move (.tmp 16)) 29 (.pointer (some ⟨px, 0, none⟩)) #[true, true, false, false, false, false, false, false, false, false, false, false, false, false, false, false, false] (by kernel_rfl) (by kernel_rfl) (by kernel_rfl) (by kernel_rfl) (by kernel_rfl) rfl (fun _ _ _ h => h) (fun _ _ => rfl) hS0 ?_
                simp only [Act.put, List.setIfInBounds_toArray, List.set_cons_zero, List.set_cons_succ]
                refine AnyR.take (i := 2) (some 137) (.nilCheck (.tmp 136)) 0 (.pointer (some ⟨px, 0, none⟩)) #[true, true, true, false, false, false, false, false, false, false, false, false, false, false, false, false, false] (by kernel_rfl) (by kernel_rfl) (by kernel_rfl) (by kernel_rfl) (by kernel_rfl) rfl (fun _ _ _ h => h) (fun _ _ => rfl) hS0 ?_
                simp only [Act.put, List.setIfInBounds_toArray, List.set_cons_zero, List.set_cons_succ]
                refine AnyR.take (i := 3) (some 138) (.fieldAddr 52 (.tmp 137) 2) 0 (.pointer (some ⟨px, 2, none⟩)) #[true, true, true, true, false, false, false, false, false, false, false, false, false, false, false, false, false] (by kernel_rfl) (by kernel_rfl) (by kernel_rfl) (by kernel_rfl) (by kernel_rfl) rfl (fun _ _ _ h => h) (fun _ _ => by kernel_rfl) hS0 ?_
                simp only [Act.put, List.setIfInBounds_toArray, List.set_cons_zero, List.set_cons_succ]
                refine AnyR.take (i := 4) (some 139) (.load 50 (.tmp 138)) 50 (vLx) #[true, true, true, true, true, false, false, false, false, false, false, false, false, false, false, false, false] (by kernel_rfl) (by kernel_rfl) (by kernel_rfl) (by kernel_rfl) (by kernel_rfl) rfl (fun _ _ _ h => h) (fun _ hw => val_of (ref_load_slot hw.1)) hS0 ?_
                simp only [Act.put, List.setIfInBounds_toArray, List.set_cons_zero, List.set_cons_succ]
                refine AnyR.take (i := 5) (some 140) (.move (.tmp 12)) 50 (.slice (some ⟨kg, 0, none⟩) kp.length kcp) #[true, true, true, true, true, true, false, false, false, false, false, false, false, false, false, false, false] (by kernel_rfl) (by kernel_rfl) (by kernel_rfl) (by kernel_rfl) (by kernel_rfl) rfl (fun _ _ _ h => h) (fun _ _ => rfl) hS0 ?_
                simp only [Act.put, List.setIfInBounds_toArray, List.set_cons_zero, List.set_cons_succ]
                refine AnyR.take (i := 6) (some 141) (.move (.tmp 17)) 3 (.int .i64 (j : Int)) #[true, true, true, true, true, true, true, false, false, false, false, false, false, false, false, false, false] (by kernel_rfl) (by kernel_rfl) (by kernel_rfl) (by kernel_rfl) (by kernel_rfl) rfl (fun _ _ _ h => h) (fun _ _ => rfl) hS0 ?_
                simp only [Act.put, List.setIfInBounds_toArray, List.set_cons_zero, List.set_cons_succ]
                refine AnyR.take (i := 7) (some 142) (.indexAddr 50 (.tmp 140) (.tmp 141)) 0 (.pointer (some ⟨kg, j * 2, none⟩)) #[true, true, true, true, true, true, true, true, false, false, false, false, false, false, false, false, false] (by kernel_rfl) (by kernel_rfl) (by kernel_rfl) (by kernel_rfl) (by kernel_rfl) rfl (fun _ _ _ h => h) (fun _ _ => val_of (call_addr (by omega) hkpm)) hS0 ?_
                simp only [Act.put, List.setIfInBounds_toArray, List.set_cons_zero, List.set_cons_succ]
                refine AnyR.take (i := 8) (some 143) (.fieldAddr 79 (.tmp 142) 0) 0 (.pointer (some ⟨kg, j * 2, none⟩)) #[true, true, true, true, true, true, true, true, true, false, false, false, false, false, false, false, false] (by kernel_rfl) (by kernel_rfl) (by kernel_rfl) (by kernel_rfl) (by kernel_rfl) rfl (fun _ _ _ h => h) (fun _ _ => by kernel_rfl) hS0 ?_
                simp only [Act.put, List.setIfInBounds_toArray, List.set_cons_zero, List.set_cons_succ]
                refine AnyR.take (i := 9) (some 144) (.load 3 (.tmp 143)) 3 (.int .i64 c.n) #[true, true, true, true, true, true, true, true, true, true, false, false, false, false, false, false, false] (by kernel_rfl) (by kernel_rfl) (by kernel_rfl) (by kernel_rfl) (by kernel_rfl) rfl (fun _ _ _ h => h) (fun _ hw => val_of (int_load_slot hw.2)) hS0 ?_
                simp only [Act.put, List.setIfInBounds_toArray, List.set_cons_zero, List.set_cons_succ]
                refine AnyR.take (i := 10) (some 145) (.move (.tmp 18)) 39 (.slice (some ⟨gy, 0, none⟩) 32 cy) #[true, true, true, true, true, true, true, true, true, true, true, false, false, false, false, false, false] (by kernel_rfl) (by kernel_rfl) (by kernel_rfl) (by kernel_rfl) (by kernel_rfl) rfl (fun _ _ _ h => h) (fun _ _ => rfl) hS0 ?_
                simp only [Act.put, List.setIfInBounds_toArray, List.set_cons_zero, List.set_cons_succ]
                refine AnyR.run (i := 11) (some 146) (.build 79 #[(0, .tmp 144), (1, .tmp 145)]) 79 (.agg #[.int .i64 c.n, .slice (some ⟨gy, 0, none⟩) 32 cy]) (Wy.drew) #[true, true, true, true, true, true, true, true, true, true, true, true, false, false, false, false, false] (by kernel_rfl) (by kernel_rfl) rfl (build_of (x := .tmp 144) (y := .tmp 145) (ref_build_any c.n (some ⟨gy, 0, none⟩) cy Wy.drew)) (fun _ => hS0) ?_
                simp only [Act.put, List.setIfInBounds_toArray, List.set_cons_zero, List.set_cons_succ]
                refine AnyR.run (i := 12) (some 147) (.buildSlice 50 1 #[(0, .tmp 146)]) 50 (.slice (some ⟨Wy.heap.size, 0, none⟩) 1 1) (Wy.drew.alloc (.cells #[.int .i64 c.n, .slice (some ⟨gy, 0, none⟩) 32 cy] 79)) #[true, true, true, true, true, true, true, true, true, true, true, true, true, false, false, false, false] (by kernel_rfl) (by kernel_rfl) rfl (slice_of (x := .tmp 146) (ref_slice_any c.n (some ⟨gy, 0, none⟩) cy Wy.drew)) (fun _ => hS3) ?_
                simp only [Act.put, List.setIfInBounds_toArray, List.set_cons_zero, List.set_cons_succ]
                refine AnyR.run (i := 13) (some 148) (.call { callee := .builtin .append, args := #[.tmp 139, .tmp 147], argTypes := #[50, 50] }) 50 (.slice (some ⟨gg, 0, none⟩) (tl + 1) cap1) (w7) #[true, true, true, true, true, true, true, true, true, true, true, true, true, true, false, false, false] (by kernel_rfl) (by kernel_rfl) rfl (append_of (s := .tmp 139) (x := .tmp 147) hap rfl rfl) (fun _ => hS4) ?_
                simp only [Act.put, List.setIfInBounds_toArray, List.set_cons_zero, List.set_cons_succ]
                refine AnyR.run (i := 14) (some 149) (.nilCheck (.tmp 135)) 0 (.pointer (some ⟨px, 0, none⟩)) (w7) #[true, true, true, true, true, true, true, true, true, true, true, true, true, true, true, false, false] (by kernel_rfl) (by kernel_rfl) rfl (rfl) (fun _ => hS4) ?_
                simp only [Act.put, List.setIfInBounds_toArray, List.set_cons_zero, List.set_cons_succ]
                refine AnyR.run (i := 15) (some 150) (.fieldAddr 52 (.tmp 149) 2) 0 (.pointer (some ⟨px, 2, none⟩)) (w7) #[true, true, true, true, true, true, true, true, true, true, true, true, true, true, true, true, false] (by kernel_rfl) (by kernel_rfl) rfl (by kernel_rfl) (fun _ => hS4) ?_
                simp only [Act.put, List.setIfInBounds_toArray, List.set_cons_zero, List.set_cons_succ]
                refine AnyR.runSkip (i := 16) none (.store 50 (.tmp 150) (.tmp 148)) 0 (w7.setCell ⟨px, 2, none⟩ (.slice (some ⟨gg, 0, none⟩) (tl + 1) cap1)) #[true, true, true, true, true, true, true, true, true, true, true, true, true, true, true, true, true] (by kernel_rfl) (by kernel_rfl) rfl (skip_of (ref_store_slot hS4.1 hf4)) (fun h => by cases h) ?_
                refine AnyR.none (by kernel_rfl) ?_ _
                go_wp2_with fail
                go_roundw
                case rel => exact ⟨j + 1, by go_num, by omega, HX'.out⟩
                case measure => simp [intOf]; omega
              · have hsz := HSZ1.out j hjl
                have hjb : ((j : Int) == la) = false := by simp [hjl]
                have HHX := Lib.hid (And.intro hR (And.intro hrx (And.intro hlx (And.intro hY1 (And.intro hY2 (And.intro hYo (And.intro hpxv (And.intro hb (And.intro hk (And.intro hlk hbs))))))))))
                have HC1 := Lib.hid hc1
                have HSZ := Lib.hid hsz
                have HTL := Lib.hid etl
                have HNX := Lib.hid nvx
                have HNK := Lib.hid nvk
                have HRL := Lib.hid hrl
                have HTL2 := Lib.hid htl
                clear hR hrx hlx hY1 hY2 hYo hpxv hb hk hlk hbs hby hc1 hsz etl hbox nvx nvk hrl htl
                obtain ⟨gg, cap1, w7, hap, hown7, hgrow, hat7, hglt⟩ := push_run (W := wr) HHX.out.2.1 (by have := HTL2.out; omega) (Below.refl wr.heap.size wr) c.n A cap
                have hbA : Below wr.heap.size wr (wr.drew.alloc (.cells #[.int .i64 c.n, .slice A 32 cap] 79)) := ((Below.refl wr.heap.size wr)).drew.alloc ((Below.refl wr.heap.size wr)).size _
                have hys : BS (wr.drew.alloc (.cells #[.int .i64 c.n, .slice A 32 cap] 79)) (Y') (.slice A 32 cap) (c.bytes) := BS.turned (T := fun _ => False) ((show BS wr Y (.slice A 32 cap) c.bytes from ⟨A, cap, rfl, HHX.out.2.2.2.2.2.2.2.2.2.2⟩).more HHX.out.2.2.2.1) (Turned.of_below hbA) (fun _ _ h => h)
                have hX' := XRel.push (Y2 := Y') (size := size) HHX.out.1 HHX.out.2.1 HHX.out.2.2.1 HHX.out.2.2.2.1 HHX.out.2.2.2.2.1 HHX.out.2.2.2.2.2.1 HHX.out.2.2.2.2.2.2.1 HHX.out.2.2.2.2.2.2.2.1 HHX.out.2.2.2.2.2.2.2.2.1 HHX.out.2.2.2.2.2.2.2.2.2.1 HKX.out hwp HY.out hbA hgrow hown7 hat7 hglt (fun _ h => h) (fun _ h => .inl h) hys HC1.out (by rw [HSZ.out]; exact tear_all HRL.out hbl)
                rw [← HTL.out] at hX' hap
                have HX' := Lib.hid hX'
                have hS0 : wr.drew.cell? ⟨px, 2, none⟩ = some vLx ∧ wr.drew.cell? ⟨kg, j * 2, none⟩ = some (.int .i64 c.n) := ⟨(((Below.refl wr.heap.size wr)).drew.cell (p := ⟨px, 2, none⟩) lpx).trans x2, (((Below.refl wr.heap.size wr)).drew.cell (p := ⟨kg, j * 2, none⟩) (Nat.lt_trans hkgp lpx)).trans ck0⟩
                have hS3 : (wr.drew.alloc (.cells #[.int .i64 c.n, .slice A 32 cap] 79)).cell? ⟨px, 2, none⟩ = some vLx ∧ (wr.drew.alloc (.cells #[.int .i64 c.n, .slice A 32 cap] 79)).cell? ⟨kg, j * 2, none⟩ = some (.int .i64 c.n) := ⟨(hbA.cell (p := ⟨px, 2, none⟩) lpx).trans x2, (hbA.cell (p := ⟨kg, j * 2, none⟩) (Nat.lt_trans hkgp lpx)).trans ck0⟩
                have hS4 : w7.cell? ⟨px, 2, none⟩ = some vLx ∧ w7.cell? ⟨kg, j * 2, none⟩ = some (.int .i64 c.n) := ⟨cell_grown hgrow hS3.1 HNX.out, cell_grown hgrow hS3.2 HNK.out⟩
                have hf4 : w7.frozen? ⟨px, 2, none⟩ = false := frozen_grown hgrow hS3.1 ((World.frozen?_of_block (hbA.block px lpx)).trans fx) HNX.out
                have HS0' := Lib.hid hS0
                have HS3 := Lib.hid hS3
                have HS4 := Lib.hid hS4
                have HF4 := Lib.hid hf4
                have HAP := Lib.hid hap
                clear hX' hap hown7 hgrow hat7 hglt hys hbA hS0 hS3 hS4 hf4
                go_wp2_with fail
                have hS0 := HS0'.out
                have hS3 := HS3.out
                have hS4 := HS4.out
                have hf4 := HF4.out
                have hap := HAP.out
                refine region_R (fun x => x.cell? ⟨px, 2, none⟩ = some vLx ∧ x.cell? ⟨kg, j * 2, none⟩ = some (.int .i64 c.n)) (fun i => i == 16) #[false, false, false, false, false, false, false, false, false, false, false, false, false, false, false, false, false] 17 (by kernel_rfl) rfl rfl ?_
                refine AnyR.take (i := 0) (some 135) (.move (.tmp 16)) 29 (.pointer (some ⟨px, 0, none⟩)) #[true, false, false, false, false, false, false, false, false, false, false, false, false, false, false, false, false] (by kernel_rfl) (by kernel_rfl) (by kernel_rfl) (by kernel_rfl) (by kernel_rfl) rfl (fun _ _ _ h => h) (fun _ _ => rfl) hS0 ?_
                simp only [Act.put, List.setIfInBounds_toArray, List.set_cons_zero, List.set_cons_succ]
                refine AnyR.take (i := 1) (some 136) (.move (.tmp 16)) 29 (.pointer (some ⟨px, 0, none⟩)) #[true, true, false, false, false, false, false, false, false, false, false, false, false, false, false, false, false] (by kernel_rfl) (by kernel_rfl) (by kernel_rfl) (by kernel_rfl) (by kernel_rfl) rfl (fun _ _ _ h => h) (fun _ _ => rfl) hS0 ?_
                simp only [Act.put, List.setIfInBounds_toArray, List.set_cons_zero, List.set_cons_succ]
                refine AnyR.take (i := 2) (some 137) (.nilCheck (.tmp 136)) 0 (.pointer (some ⟨px, 0, none⟩)) #[true, true, true, false, false, false, false, false, false, false, false, false, false, false, false, false, false] (by kernel_rfl) (by kernel_rfl) (by kernel_rfl) (by kernel_rfl) (by kernel_rfl) rfl (fun _ _ _ h => h) (fun _ _ => rfl) hS0 ?_
                simp only [Act.put, List.setIfInBounds_toArray, List.set_cons_zero, List.set_cons_succ]
                refine AnyR.take (i := 3) (some 138) (.fieldAddr 52 (.tmp 137) 2) 0 (.pointer (some ⟨px, 2, none⟩)) #[true, true, true, true, false, false, false, false, false, false, false, false, false, false, false, false, false] (by kernel_rfl) (by kernel_rfl) (by kernel_rfl) (by kernel_rfl) (by kernel_rfl) rfl (fun _ _ _ h => h) (fun _ _ => by kernel_rfl) hS0 ?_
                simp only [Act.put, List.setIfInBounds_toArray, List.set_cons_zero, List.set_cons_succ]
                refine AnyR.take (i := 4) (some 139) (.load 50 (.tmp 138)) 50 (vLx) #[true, true, true, true, true, false, false, false, false, false, false, false, false, false, false, false, false] (by kernel_rfl) (by kernel_rfl) (by kernel_rfl) (by kernel_rfl) (by kernel_rfl) rfl (fun _ _ _ h => h) (fun _ hw => val_of (ref_load_slot hw.1)) hS0 ?_
                simp only [Act.put, List.setIfInBounds_toArray, List.set_cons_zero, List.set_cons_succ]
                refine AnyR.take (i := 5) (some 140) (.move (.tmp 12)) 50 (.slice (some ⟨kg, 0, none⟩) kp.length kcp) #[true, true, true, true, true, true, false, false, false, false, false, false, false, false, false, false, false] (by kernel_rfl) (by kernel_rfl) (by kernel_rfl) (by kernel_rfl) (by kernel_rfl) rfl (fun _ _ _ h => h) (fun _ _ => rfl) hS0 ?_
                simp only [Act.put, List.setIfInBounds_toArray, List.set_cons_zero, List.set_cons_succ]
                refine AnyR.take (i := 6) (some 141) (.move (.tmp 17)) 3 (.int .i64 (j : Int)) #[true, true, true, true, true, true, true, false, false, false, false, false, false, false, false, false, false] (by kernel_rfl) (by kernel_rfl) (by kernel_rfl) (by kernel_rfl) (by kernel_rfl) rfl (fun _ _ _ h => h) (fun _ _ => rfl) hS0 ?_
                simp only [Act.put, List.setIfInBounds_toArray, List.set_cons_zero, List.set_cons_succ]
                refine AnyR.take (i := 7) (some 142) (.indexAddr 50 (.tmp 140) (.tmp 141)) 0 (.pointer (some ⟨kg, j * 2, none⟩)) #[true, true, true, true, true, true, true, true, false, false, false, false, false, false, false, false, false] (by kernel_rfl) (by kernel_rfl) (by kernel_rfl) (by kernel_rfl) (by kernel_rfl) rfl (fun _ _ _ h => h) (fun _ _ => val_of (call_addr (by omega) hkpm)) hS0 ?_
                simp only [Act.put, List.setIfInBounds_toArray, List.set_cons_zero, List.set_cons_succ]
                refine AnyR.take (i := 8) (some 143) (.fieldAddr 79 (.tmp 142) 0) 0 (.pointer (some ⟨kg, j * 2, none⟩)) #[true, true, true, true, true, true, true, true, true, false, false, false, false, false, false, false, false] (by kernel_rfl) (by kernel_rfl) (by kernel_rfl) (by kernel_rfl) (by kernel_rfl) rfl (fun _ _ _ h => h) (fun _ _ => by kernel_rfl) hS0 ?_
                simp only [Act.put, List.setIfInBounds_toArray, List.set_cons_zero, List.set_cons_succ]
                refine AnyR.take (i := 9) (some 144) (.load 3 (.tmp 143)) 3 (.int .i64 c.n) #[true, true, true, true, true, true, true, true, true, true, false, false, false, false, false, false, false] (by kernel_rfl) (by kernel_rfl) (by kernel_rfl) (by kernel_rfl) (by kernel_rfl) rfl (fun _ _ _ h => h) (fun _ hw => val_of (int_load_slot hw.2)) hS0 ?_
                simp only [Act.put, List.setIfInBounds_toArray, List.set_cons_zero, List.set_cons_succ]
                refine AnyR.take (i := 10) (some 145) (.move (.tmp 18)) 39 (.slice A 32 cap) #[true, true, true, true, true, true, true, true, true, true, true, false, false, false, false, false, false] (by kernel_rfl) (by kernel_rfl) (by kernel_rfl) (by kernel_rfl) (by kernel_rfl) rfl (fun _ _ _ h => h) (fun _ _ => rfl) hS0 ?_
                simp only [Act.put, List.setIfInBounds_toArray, List.set_cons_zero, List.set_cons_succ]
                refine AnyR.run (i := 11) (some 146) (.build 79 #[(0, .tmp 144), (1, .tmp 145)]) 79 (.agg #[.int .i64 c.n, .slice A 32 cap]) (wr.drew) #[true, true, true, true, true, true, true, true, true, true, true, true, false, false, false, false, false] (by kernel_rfl) (by kernel_rfl) rfl (build_of (x := .tmp 144) (y := .tmp 145) (ref_build_any c.n A cap wr.drew)) (fun _ => hS0) ?_
                simp only [Act.put, List.setIfInBounds_toArray, List.set_cons_zero, List.set_cons_succ]
                refine AnyR.run (i := 12) (some 147) (.buildSlice 50 1 #[(0, .tmp 146)]) 50 (.slice (some ⟨wr.heap.size, 0, none⟩) 1 1) (wr.drew.alloc (.cells #[.int .i64 c.n, .slice A 32 cap] 79)) #[true, true, true, true, true, true, true, true, true, true, true, true, true, false, false, false, false] (by kernel_rfl) (by kernel_rfl) rfl (slice_of (x := .tmp 146) (ref_slice_any c.n A cap wr.drew)) (fun _ => hS3) ?_
                simp only [Act.put, List.setIfInBounds_toArray, List.set_cons_zero, List.set_cons_succ]
                refine AnyR.run (i := 13) (some 148) (.call { callee := .builtin .append, args := #[.tmp 139, .tmp 147], argTypes := #[50, 50] }) 50 (.slice (some ⟨gg, 0, none⟩) (tl + 1) cap1) (w7) #[true, true, true, true, true, true, true, true, true, true, true, true, true, true, false, false, false] (by kernel_rfl) (by kernel_rfl) rfl (append_of (s := .tmp 139) (x := .tmp 147) hap rfl rfl) (fun _ => hS4) ?_
                simp only [Act.put, List.setIfInBounds_toArray, List.set_cons_zero, List.set_cons_succ]
                refine AnyR.run (i := 14) (some 149) (.nilCheck (.tmp 135)) 0 (.pointer (some ⟨px, 0, none⟩)) (w7) #[true, true, true, true, true, true, true, true, true, true, true, true, true, true, true, false, false] (by kernel_rfl) (by kernel_rfl) rfl (rfl) (fun _ => hS4) ?_
                simp only [Act.put, List.setIfInBounds_toArray, List.set_cons_zero, List.set_cons_succ]
                refine AnyR.run (i := 15) (some 150) (.fieldAddr 52 (.tmp 149) 2) 0 (.pointer (some ⟨px, 2, none⟩)) (w7) #[true, true, true, true, true, true, true, true, true, true, true, true, true, true, true, true, false] (by kernel_rfl) (by kernel_rfl) rfl (by kernel_rfl) (fun _ => hS4) ?_
                simp only [Act.put, List.setIfInBounds_toArray, List.set_cons_zero, List.set_cons_succ]
                refine AnyR.runSkip (i := 16) none (.store 50 (.tmp 150) (.tmp 148)) 0 (w7.setCell ⟨px, 2, none⟩ (.slice (some ⟨gg, 0, none⟩) (tl + 1) cap1)) #[true, true, true, true, true, true, true, true, true, true, true, true, true, true, true, true, true] (by kernel_rfl) (by kernel_rfl) rfl (skip_of (ref_store_slot hS4.1 hf4)) (fun h => by cases h) ?_
                refine AnyR.none (by kernel_rfl) ?_ _
                go_wp2_with fail
                go_roundw
                case rel => exact ⟨j + 1, by go_num, by omega, HX'.out⟩
                case measure => simp [intOf]; omega
            · have hje : j = kp.length := by omega
              rw [hje] at hX
              obtain ⟨wx, rfl⟩ : ∃ wx, wx = wr := ⟨_, rfl⟩
              obtain ⟨vLx, Yx, hR, _, hY2, hYo, hpxv, hb, _, _⟩ := hX
              have htl := tornTo_len B kp size kp.length
              obtain ⟨T, eT⟩ : ∃ T, T = tornTo B kp size kp.length := ⟨_, rfl⟩
              rw [← eT] at hR htl
              have ET : Hid (T = tornTo B (keepTo l safe ks l.length) size (keepTo l safe ks l.length).length) := Lib.hid (by rw [eT, ← HKP.out])
              obtain ⟨hboxx, ⟨bsx, hBx, _⟩, ⟨rx, hrx, _⟩⟩ := id hR
              have lpx : px < wx.heap.size := lt_of_some hboxx
              have hfx : ∀ j, refFoot px (.slice BA n bcap) vLx j → j < wx.heap.size := fun j h => by
                rcases h with h | h | h
                · omega
                · exact (hBx.lt j h).2
                · exact (hrx.lt j h).2
              have y0 : wx.cell? ⟨p, 0, none⟩ = some (.int .i64 (n : Int)) := (hb.cell (p := ⟨p, 0, none⟩) lp).trans z0
              have hYs := YRel.start hR hb (fun j hj => (hY2 j hj).2) hfx
              have hsx := hb.size
              obtain ⟨i1, hj0, hv0, hv1, hv2⟩ := info_parts info_beg
              have HYS := Lib.hid hYs
              have HY2 := Lib.hid hY2
              have HYO := Lib.hid hYo
              have HFX := Lib.hid hfx
              clear hYs hY2 hYo hfx hR hb hpxv eT hboxx hBx hrx hje
              go_wp2_with fail
              go_loopw [23] (fun ii wr => ∃ q : Nat, ii = .int .i64 (q : Int) ∧ q ≤ n ∧ YRel w Yx px wx.heap.size n (.slice BA n bcap) vLx B T q wr) (fun ii _ => n - (intOf ii).toNat)
              case atStart => exact ⟨0, rfl, Nat.zero_le _, HYS.out⟩
              case round =>
                obtain ⟨q, rfl, hq, hYr⟩ := hrel
                by_cases hqn : q < n
                · obtain ⟨vBy, bs, hbox, hBy, hBs, hRy, hby, hpyv⟩ := hYr
                  have y0' : wr.cell? ⟨p, 0, none⟩ = some (.int .i64 (n : Int)) := (hby.cell (p := ⟨p, 0, none⟩) lp).trans z0
                  have c1 : wr.cell? ⟨wx.heap.size, 1, none⟩ = some vBy := cell_of_row _ _ 1 _ _ _ hbox
                  have fz : wr.frozen? ⟨wx.heap.size, 1, none⟩ = false := frozen_of_row wr wx.heap.size 1 _ _ hbox
                  have lpy : wx.heap.size < wr.heap.size := lt_of_some hbox
                  have np : vBy.ownBlock ≠ some wx.heap.size := fun e => by have := hpyv _ e; omega
                  have hread := ref_read Yx px n (.slice BA n bcap) vLx B T (q : Int) wr hRy (by omega) (by omega) hn (by omega)
                  have HREAD := Lib.hid hread
                  have HNP := Lib.hid np
                  have HBY := Lib.hid hBy
                  have HALL := Lib.hid (And.intro hbox (And.intro hBs (And.intro hRy (And.intro hby hpyv))))
                  have hqI : (q : Int) < (n : Int) := by omega
                  have hq0 : (0 : Int) ≤ (q : Int) := by omega
                  clear hread np hBy hbox hBs hRy hby hpyv
                  go_wp2_with fail
                  go_at_call 28
                  (with_reducible refine HREAD.out.mono ?_)
                  rintro e w' ⟨v, rfl, hv, rfl⟩
                  obtain ⟨A3, cap3, rfl, hb3⟩ := hv
                  have HB3 := Lib.hid hb3
                  clear hb3
                  go_wp2_with (at_builtin; refine wpList_append_lies _ rfl _ _ _ rfl w.heap.size 39 i1 _ 1 24 Try.underlying49 hj0 hv0 hv1 hv2 (by rfl) (by omega) vBy q bs rfl (HBY.out.alloc _) ⟨wr.heap.size, 0, none⟩ 1 1 [.slice A3 32 cap3] rfl rfl (World.news_of_block (cs := #[.slice A3 32 cap3]) (t := 39) (fr := (0, 0)) (heap_alloc_new wr _)) (by simp [Value.oneCell']) (by omega) (by unfold maxLen; omega) (by omega) (by simp; omega) (wr.heap.size + 1) (by simp) ?_; intro gg cap1 w7 hown1 hgrow hat hlt; have c3' := cell_grown hgrow ((World.cell?_alloc_lt wr _ _ lpy).trans c1) HNP.out; have f3' := frozen_grown hgrow ((World.cell?_alloc_lt wr _ _ lpy).trans c1) ((World.frozen?_of_block (Below.heap_alloc wr _ wx.heap.size lpy)).trans fz) HNP.out)
                  go_roundw
                  case rel => exact ⟨q + 1, by go_num, by omega, YRel.push HALL.out.1 HBY.out HALL.out.2.1 HALL.out.2.2.1 HALL.out.2.2.2.1 HALL.out.2.2.2.2 hsx (fun j hj => (HY2.out j hj).2) HFX.out hgrow hown1 hat ⟨A3, cap3, rfl, HB3.out⟩⟩
                  case measure => simp [intOf]; omega
                · have hqe : q = n := by omega
                  rw [hqe] at hYr
                  obtain ⟨vBy, bs, hbox, hBy, hBs, hRy, hby, hpyv⟩ := hYr
                  have y0' : wr.cell? ⟨p, 0, none⟩ = some (.int .i64 (n : Int)) := (hby.cell (p := ⟨p, 0, none⟩) lp).trans z0
                  have hqI : (n : Int) ≤ (q : Int) := by omega
                  have hfin : RefCutIs w Y n B T (.returned (.pointer (some ⟨wx.heap.size, 0, none⟩))) wr := by
                    refine ⟨wx.heap.size, vBy, Yx, rfl, ⟨hbox, ⟨bs, ⟨hBy.1, hBy.2.imp id (fun ⟨g, cap, cur, e, _, r⟩ => ⟨g, cap, cur, e, Nat.zero_le _, r⟩)⟩, fun a ha => hBs a ha⟩, ⟨[], World.ownsRow_nil _ _ _ _, fun a c hc => by cases hc⟩⟩, fun j hj hf => ?_, HYO.out, fun j hf => ?_, fun j hj => ?_, hby⟩
                    · have := (HY2.out j hj).2
                      rcases hf with hf | hf | hf
                      · omega
                      · have := hpyv j hf; omega
                      · cases hf
                    · rcases hf with hf | hf | hf
                      · omega
                      · have := hpyv j hf; omega
                      · cases hf
                    · have := (HY2.out j hj).2
                      have := lt_of_some hbox
                      omega
                  have HFIN := Lib.hid hfin
                  clear hfin hbox hBy hBs hRy hby hpyv hqe
                  go_wp2_with fail
                  go_ret
                  rw [← ET.out]
                  exact HFIN.out
end Go.Proofs.Ytpfdlcogldbocaa
