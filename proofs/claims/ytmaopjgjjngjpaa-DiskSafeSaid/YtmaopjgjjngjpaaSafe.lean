/-
  The walk of DiskSafe: it returns true, and what was in memory stays as it was. Conditions: the arguments lie in memory as operations.
-/
import Derived.Test.YtmaopjgjjngjpaaSafe1
import Derived.Deep.QuietTactic
import Derived.BigQuiet
import Derived.Deep.CutRange
namespace Go.Proofs.Ytmaopjgjjngjpaa
open Go.RowKit Go.Maps

theorem info_slice : (Try.prog.info? 31).map (fun i => (i.zero, i.size, i.bytes)) = some (some (.slice none 0 0), 1, 24) := by kernel_rfl

/-- What was read: a slice of slices, each a block of its own. -/
def sl32 (g : Nat) : Value := .slice (some ⟨g, 0, none⟩) 32 32
def Was (S : Int → Option (List UInt8)) (B : Nat) (gs : List Nat) (w : World) : Prop := ∀ (j g : Nat), gs[j]? = some g → B ≤ g ∧ w.heap[g]? = some (.cells (bytesV ((S (j : Int)).getD zero32)).toArray 56 (0, 0))
def WasRel (S : Int → Option (List UInt8)) (w5 : World) (i : Nat) (v : Value) (wr : World) : Prop :=
  ∃ gs : List Nat, gs.length = i ∧ wr.ownsRow w5.heap.size 31 1 v i (gs.map sl32) ∧ Was S w5.heap.size gs wr ∧ Below w5.heap.size w5 wr
theorem was_cell {w : World} {wb i wcap base : Nat} {gs : List Nat} (hown : w.ownsRow base 31 1 (.slice (some ⟨wb, 0, none⟩) i wcap) i (gs.map sl32)) (hgl : gs.length = i) {m : Nat} (hm : m < i) : ∃ g, gs[m]? = some g ∧ w.cell? ⟨wb, m, none⟩ = some (.slice (some ⟨g, 0, none⟩) 32 32) := by
  have hm2 : m < gs.length := by omega
  refine ⟨gs[m], List.getElem?_eq_getElem hm2, ?_⟩
  have := hown.cells (g := wb) rfl m (sl32 gs[m]) (by rw [List.getElem?_map, List.getElem?_eq_getElem hm2]; rfl)
  rw [Addr.add_mid, Nat.zero_add] at this
  exact this
theorem byte_cell {w : World} {g : Nat} {l : List UInt8} {t : TypeId} {q : Nat} {x : UInt8} (h : w.heap[g]? = some (.cells (bytesV l).toArray t (0, 0))) (hx : l[q]? = some x) : w.cell? ⟨g, q, none⟩ = some (.int .u8 (x.toNat : Int)) := by
  rw [cell_of_row _ _ _ _ _ _ h]
  simp [bytesV, hx, byteV]
theorem belowN {B : Nat} {a b : World} (h : Below B a b) (n : Nat) : Below B a (b.drewN n) := ⟨h.os, h.tape, h.output, h.size, h.block⟩
theorem fine_of_kin {S F : Int → Option (List UInt8)} {ms : List OpM} {K n k : Nat} {x y : UInt8} (hK : K ≤ ms.length) (h : Kin S (goodTo ms K) F) (hk : k < 32) (hx : ((F (n : Int)).getD zero32)[k]? = some x) (hy : ((S (n : Int)).getD zero32)[k]? = some y) : fineTo ms n k x y K = true := by
  refine fineTo_true ?_
  rcases h (n : Int) k hk with h1 | ⟨c, hc, h1, h2⟩
  · left
    rw [hx, hy] at h1
    injection h1
  · right
    obtain ⟨_, j, o, hj, ho, e1, e2, e3⟩ := goodTo_mem ms K hK c hc
    exact ⟨j, o, hj, ho, e1.trans h1, e3, by rw [e2, h2, hx]⟩
theorem blocks32_cutF {F : Int → Option (List UInt8)} (hF : Blocks32 F) {dn : List CallM} (hd : ∀ c ∈ dn, c.ok) {k : Nat} (hk : k ≤ dn.length) {ks : List Bool} {torn : Int} : Blocks32 (cutF F dn k ks torn) := by
  unfold cutF
  refine blocks32_layTo (blocks32_layTo hF (fun c hc => hd c (List.mem_of_mem_take hc)) (fun _ => Nat.le_refl _) k (by rw [List.length_take]; omega)) (fun c hc => hd c (List.mem_of_mem_drop (keptM_mem _ _ c hc))) (sizes_le _ _) _ (Nat.le_refl _)

set_option maxRecDepth 100000 in
set_option maxHeartbeats 8000000 in
theorem safe_any (S0 M0 : Option Addr) (scap mcap : Nat) (os ms : List OpM) (o : OpM) (w : World) (hs : OpsAt w S0 os) (hms : OpsAt w M0 ms) (ho : o.good w) :
    Calls Try.prog 4 #[.slice S0 os.length scap, .slice M0 ms.length mcap, .agg o.cells.toArray] w (TrueIs w) := by
  have HS := Lib.hid hs
  have HMS := Lib.hid hms
  have HO := Lib.hid ho
  obtain ⟨kind, n, torn, A, b, bcap, K, keep, kcap⟩ := o
  unfold OpM.cells
  have hn : Hid (∀ w, Calls Try.prog 8 #[.int .i64 12] w (NewDisk w 12)) := fun w => new_in 12 w (by omega) (by omega)
  obtain ⟨i0, hi0, hz0, hz1, hz2⟩ := info_parts info_slice
  clear hs hms ho
  go_enter Try.func4, Try.ntmps4
  go_wp2_with fail
  go_at_call 8
  (with_reducible refine (hn.out _).mono ?_)
  rintro e w2 ⟨p, bf, bs, v0, rfl, hd, hfo, hb⟩
  have HD := Lib.hid hd
  have HFO := Lib.hid hfo
  have HB2 := Lib.hid hb
  clear hd hfo hb
  go_wp2_with fail
  go_at_call 7
  (with_reducible refine (alive_any _).mono ?_)
  rintro e w3 ⟨rfl, hb3⟩
  have HB3 := Lib.hid hb3
  clear hb3
  go_wp2_with fail
  have hb4 : Below (w.heap.size + 1) (w.alloc (.cells #[.int .i64 kind, .int .i64 n, .slice A b.length bcap, .slice K keep.length kcap, .int .i64 torn] 34)) w3 := by
    have h2 := HB2.out
    have h3 := HB3.out
    have e1 : (w.alloc (.cells #[.int .i64 kind, .int .i64 n, .slice A b.length bcap, .slice K keep.length kcap, .int .i64 torn] 34)).heap.size = w.heap.size + 1 := by simp
    rw [e1] at h2
    have hs2 := h2.size
    rw [e1] at hs2
    exact h2.trans (h3.mono hs2)
  have hs3 : w.heap.size + 1 ≤ w3.heap.size := by have := hb4.size; simpa using this
  have hwx : Below w.heap.size w w3 := ((Below.refl _ _).alloc (Nat.le_refl _) _).trans (hb4.mono (by omega))
  have HB4 := Lib.hid hb4
  have HWX := Lib.hid hwx
  have hfoot0 : ∀ j, foot p bf bs v0 j → w.heap.size + 1 ≤ j := fun j hj => by have := HFO.out j hj; simpa using this
  have HF0 := Lib.hid hfoot0
  have HD3 : Hid (DiskIs w3 p bf bs v0 12 0 (fun _ => none) (fun _ => none) []) := HD.out.turned (Turned.of_below (S := fun _ => False) HB3.out) (fun _ _ h => h)
  clear hb4 hwx hfoot0
  go_loopw [9] (fun ii wr => ∃ k : Nat, ii = .int .i64 (k : Int) ∧ k ≤ os.length ∧ k ≤ 40 ∧ ∃ S cs, Writes p bf bs (fun j => w.heap.size + 1 ≤ j) w3 S cs wr ∧ Blocks32 S ∧ Lays (fun _ => none) S cs ∧ cs.length ≤ k) (fun ii _ => 40 - (intOf ii).toNat)
  case atStart => exact ⟨0, rfl, Nat.zero_le _, Nat.zero_le _, _, [], ⟨v0, HD3.out, HF0.out, Turned.refl _ _⟩, none32, Lays.start _, Nat.le_refl _⟩
  case round =>
    obtain ⟨k, rfl, hk1, hk2, S, cs, ⟨v, hd, hfoot, hturn⟩, h32, hlay, hcl⟩ := hrel
    have hTB : ∀ j, w.heap.size + 1 ≤ j → w.heap.size + 1 ≤ j := fun _ h => h
    have hbw : Below w.heap.size w wr := HWX.out.trans (hturn.below (by omega) (fun j hj => by omega))
    have HLY := Lib.hid hlay
    have H32 := Lib.hid h32
    clear hlay h32
    by_cases hlt : k < os.length ∧ k < 40
    · obtain ⟨hl1, hl2⟩ := hlt
      obtain ⟨q, hq⟩ : ∃ q, os[k]? = some q := ⟨_, List.getElem?_eq_getElem hl1⟩
      obtain ⟨⟨gb, _, _, wqn, _, hcap, _, _⟩, sg, so, hSe, hr⟩ := HS.out k q hq
      subst hSe
      have c1w : w.cell? ⟨sg, so + k * 5 + 1, none⟩ = some (.int .i64 q.n) := hr 1 _ rfl
      have c2w : w.cell? ⟨sg, so + k * 5 + 2, none⟩ = some (.slice q.A q.b.length q.bcap) := hr 2 _ rfl
      have lsg := World.block_lt_of_cell? w _ c1w
      have c1 : wr.cell? ⟨sg, so + k * 5 + 1, none⟩ = some (.int .i64 q.n) := (hbw.cell (p := ⟨sg, so + k * 5 + 1, none⟩) lsg).trans c1w
      have c2 : wr.cell? ⟨sg, so + k * 5 + 2, none⟩ = some (.slice q.A q.b.length q.bcap) := (hbw.cell (p := ⟨sg, so + k * 5 + 2, none⟩) lsg).trans c2w
      have hsgf : ¬ foot p bf bs v sg := fun h => by have h1 := hTB _ (hfoot _ h); have : sg < w.heap.size := lsg; omega
      have hW := write_any p bf bs v 12 0 (fun _ => none) S cs q.n q.b q.A q.bcap wr.drew hd (by omega) (by omega) (gb.below (w' := wr.drew) (B := w.heap.size) ⟨hbw.os, hbw.tape, hbw.output, hbw.size, hbw.block⟩ (Nat.le_refl _)) hcap
        (fun hp g o e hf => by
          obtain ⟨g', o', e', hc⟩ := gb 0 q.b[0] (List.getElem?_eq_getElem hp)
          rw [e] at e'
          injection e' with e'
          have h1 := World.block_lt_of_cell? w _ hc
          have h2 := hTB _ (hfoot _ hf)
          have h3 : g = g' := (Addr.mk.inj e').1
          have h4 : g' < w.heap.size := h1
          omega)
      have HW := Lib.hid hW
      have hki : (k : Int) < (os.length : Int) := by omega
      have hk4 : (k : Int) < 40 := by omega
      have hk0 : (0 : Int) ≤ (k : Int) := by omega
      have HFT := Lib.hid hfoot
      have HTN := Lib.hid hturn
      have HQ := Lib.hid hq
      have HSG := Lib.hid hsgf
      have HBW := Lib.hid hbw
      clear hfoot hturn hq hsgf hr c1w c2w hbw hW
      go_wp2_with fail
      go_region_held3 (fun x => x.cell? ⟨sg, so + k * 5 + 1, none⟩ = some (.int .i64 q.n) ∧ x.cell? ⟨sg, so + k * 5 + 2, none⟩ = some (.slice q.A q.b.length q.bcap))
        ((go_split_ands; refine ⟨?_, ?_⟩ <;> first | assumption | exact ht2.cell c1 HSG.out | exact ht2.cell c2 HSG.out))
        (first | (go_at_call 10; (with_reducible refine HW.out.mono ?_); rintro e w4 ⟨rfl, v2, hd2, hv2, ht2⟩))
      go_wp2_with fail
      go_roundw
      case rel =>
        have hst : Step wr.drew p bf bs v 12 0 (fun _ => none) (wS 12 S q.n q.b) (wCs 12 cs q.n q.b) 0 (.returned (.int .i64 0)) w4 := ⟨rfl, v2, hd2, hv2, ht2⟩
        have hwr := Writes.step (S := S) (cs := cs) HFT.out HTN.out (fun j hj => by omega) hst
        exact ⟨k + 1, by go_num, by omega, by omega, _, _, hwr, blocks32_wS H32.out, HLY.out.step none32 H32.out, Nat.le_trans length_wCs (by omega)⟩
      case measure => simp [intOf]; omega
    · have hd0 := Lib.hid hd
      have HFT := Lib.hid hfoot
      have HTN := Lib.hid hturn
      have HBW := Lib.hid hbw
      clear hd hfoot hturn hbw
      go_upto_region 5 with fail
      go_cut [45] from 38 to 59 (fun t wx => t = .bool false ∧ wr = wx)
      case first =>
        by_cases hk3 : k < os.length
        · have hk4 : decide ((k : Int) < 40) = false := by simp; omega
          have hk5 : (k : Int) < (os.length : Int) := by omega
          go_wp2_with fail
          go_meet
          exact ⟨rfl, rfl⟩
        · have hk5 : (os.length : Int) ≤ (k : Int) := by omega
          go_wp2_with fail
          go_meet
          exact ⟨rfl, rfl⟩
      case rest =>
        obtain ⟨rfl, rfl⟩ := hcut
        have HSY := Lib.hid (sync_step p bf bs v 12 0 (fun _ => none) S cs wr hd0.out (by omega))
        go_wp2_with fail
        go_at_call 12
        (with_reducible refine HSY.out.mono ?_)
        rintro e w5 ⟨rfl, v5, hd5, hv5, ht5⟩
        obtain ⟨A5, cap5, rfl, _, _, _, _, _⟩ := hd5.slice
        obtain ⟨cs5, hcs5⟩ : ∃ cs5, cs5 = cs ++ [syncM] := ⟨_, rfl⟩
        have HLS5 : Hid (Lays (fun _ => none) S (cs ++ [syncM])) := HLY.out.sync
        have hl5 : (cs ++ [syncM]).length ≤ 41 := by simp; omega
        have hl50 : 1 ≤ (cs ++ [syncM]).length := by simp
        have hb5 : Below (w.heap.size + 1) w3 w5 := (HTN.out.below (by omega) (fun j hj => hj)).trans (ht5.below (by have := HTN.out.size; omega) HFT.out)
        have hf5 : ∀ j, foot p bf bs (.slice A5 (cs ++ [syncM]).length cap5) j → w.heap.size + 1 ≤ j := Step.above HFT.out (by have := HTN.out.size; omega) hv5
        have hw5 : Below w.heap.size w w5 := HWX.out.trans (hb5.mono (by omega))
        have hbox5 : w5.heap[w.heap.size]? = some (.cells #[.int .i64 kind, .int .i64 n, .slice A b.length bcap, .slice K keep.length kcap, .int .i64 torn] 34 (0, 0)) :=
          (hb5.block _ (by omega)).trans ((HB4.out.block _ (by omega)).trans (heap_alloc_new w _))
        rw [← hcs5] at hd5 hf5 hl5 hl50
        have HCA : Hid (Calls Try.prog 17 #[.pointer (some ⟨p, 0, none⟩)] w5 fun e w' => e = .returned (.int .i64 (cs5.length : Int)) ∧ w5 = w') := calls_is p cs5.length cap5 A5 w5 hd5.cell3
        have HD5 := Lib.hid hd5
        have HF5 := Lib.hid hf5
        have HW5 := Lib.hid hw5
        have HBX5 := Lib.hid hbox5
        have HCS5 := Lib.hid hcs5
        have HB5 := Lib.hid hb5
        clear hd5 hf5 hw5 hbox5 hcs5 hb5 hv5 ht5
        go_wp2_with (go_at_call 17; (with_reducible refine HCA.out.mono ?_); rintro e w' ⟨rfl, rfl⟩)
        go_loopw [11, 12] (fun vv ii wr => ∃ i : Nat, ii = .int .i64 (i : Int) ∧ i ≤ 12 ∧ WasRel S w5 i vv wr) (fun _ ii _ => 12 - (intOf ii).toNat)
        case atStart => exact ⟨0, rfl, Nat.zero_le _, [], rfl, World.ownsRow_nil _ _ _ _, (fun _ _ h => by cases h), Below.refl _ _⟩
        case round =>
          obtain ⟨i, rfl, hi, gs, hgl, hown, hwas, hbi⟩ := hrel
          by_cases hi12 : i < 12
          · have hmi : (i : Int) < 12 := by omega
            have hm0 : (0 : Int) ≤ (i : Int) := by omega
            have hR := read_in p bf bs _ 12 0 (fun _ => none) S cs5 (i : Int) wr (HD5.out.turned (Turned.of_below (S := fun _ => False) hbi) (fun _ _ h => h)) hm0 (by omega) (by omega) (fun _ h => by cases h) (fun l h => H32.out _ l h)
            have HR := Lib.hid hR
            have HOW := Lib.hid hown
            have HWA := Lib.hid hwas
            have HBI := Lib.hid hbi
            have HGL := Lib.hid hgl
            clear hR hown hwas hbi hgl
            go_wp2_with fail
            go_at_call 18
            (with_reducible refine HR.out.mono ?_)
            rintro e w6 ⟨g, rfl, hg, hlg, hb6⟩
            have HG := Lib.hid hg
            have HB6 := Lib.hid hb6
            have HO6 := Lib.hid (ownsRow_turned HOW.out (Turned.of_below (S := fun _ => False) hb6) (fun _ _ h => h))
            have hs6 := hb6.size
            have hsi := HBI.out.size
            clear hg hb6
            go_wp2_with (at_builtin; refine wpList_append_lies _ rfl _ _ _ rfl w5.heap.size 31 i0 _ 1 24 Try.underlying42 hi0 hz0 hz1 hz2 (by rfl) (by omega) _ i (gs.map sl32) rfl (HO6.out.alloc _) ⟨w6.heap.size, 0, none⟩ 1 1 [sl32 g] rfl rfl (World.news_of_block (cs := #[sl32 g]) (t := 31) (fr := (0, 0)) (heap_alloc_new w6 _)) (by simp [sl32, Value.oneCell']) (by omega) (by unfold maxLen; omega) (by omega) (by simp; omega) (w6.heap.size + 1) (by simp) ?_; intro gg cap1 w7 hown1 hgrow hat hlt1)
            go_roundw
            case rel =>
              have hkeep : ∀ (x : Nat) (c : Array Value), w6.heap[x]? = some (.cells c 56 (0, 0)) → w7.heap[x]? = some (.cells c 56 (0, 0)) := fun x c hx => by
                have hlx := lt_of_some hx
                refine (hgrow.block x (by simp; omega) (fun e => own_ne HO6.out hx (by decide) e.symm)).trans ?_
                exact (Below.heap_alloc _ _ _ hlx).trans hx
              refine ⟨i + 1, by go_num, by omega, gs ++ [g], by rw [List.length_append, HGL.out]; rfl, ?_, ?_, ?_⟩
              · rw [List.map_append]
                exact hown1
              · intro j x hx
                rcases Nat.lt_or_ge j gs.length with hj | hj
                · rw [List.getElem?_append_left hj] at hx
                  obtain ⟨h1, h2⟩ := HWA.out j x hx
                  exact ⟨h1, hkeep x _ ((HB6.out.block _ (lt_of_some h2)).trans h2)⟩
                · rw [List.getElem?_append_right hj] at hx
                  have hj0 : j = i := by
                    have := (List.getElem?_eq_some_iff.1 hx).1
                    rw [HGL.out] at this hj
                    simp at this
                    omega
                  subst hj0
                  rw [HGL.out] at hx
                  simp at hx
                  subst hx
                  exact ⟨by omega, hkeep g _ HG.out⟩
              · exact ((HBI.out.trans (HB6.out.mono hsi)).alloc (by omega) _).grown hgrow (by simp; omega) (fun x hx => (HO6.out.lt x hx).1)
            case measure => simp [intOf]; omega
          · have hi12' : (12 : Int) ≤ (i : Int) := by omega
            obtain ⟨w6, rfl⟩ : ∃ w6, w6 = wr := ⟨_, rfl⟩
            obtain ⟨c0, rfl⟩ : ∃ c0, c0 = cs := ⟨_, rfl⟩
            have H325 := Lib.hid H32.out
            obtain ⟨S5, rfl⟩ : ∃ S5, S5 = S := ⟨_, rfl⟩
            obtain ⟨wb, wcap, rfl, _, _⟩ := hown.form (by omega)
            have hw6 : Below w.heap.size w w6 := HW5.out.trans (hbi.mono HW5.out.size)
            have hs56 := hbi.size
            have hs5 : w.heap.size + 1 ≤ w5.heap.size := by have := HB5.out.size; omega
            have hbox6 : w6.heap[w.heap.size]? = some (.cells #[.int .i64 kind, .int .i64 n, .slice A b.length bcap, .slice K keep.length kcap, .int .i64 torn] 34 (0, 0)) := (hbi.block _ (by omega)).trans HBX5.out
            have HD6 : Hid (DiskIs w6 p bf bs (.slice A5 cs5.length cap5) 12 0 (fun _ => none) S5 cs5) := HD5.out.turned (Turned.of_below (S := fun _ => False) hbi) (fun _ _ h => h)
            have hT6 : ∀ j, foot p bf bs (.slice A5 cs5.length cap5) j → w.heap.size + 1 ≤ j ∧ ¬ (w5.heap.size ≤ j ∧ j < w6.heap.size) := fun j hj => ⟨HF5.out j hj, fun h => by have := HD5.out.lt j hj; omega⟩
            have HT6 := Lib.hid hT6
            have HW6 := Lib.hid hw6
            have HBX6 := Lib.hid hbox6
            have HOW := Lib.hid hown
            have HWA := Lib.hid hwas
            have HGL := Lib.hid hgl
            have HBI := Lib.hid hbi
            clear hT6 hw6 hbox6 hown hwas hgl hbi
            go_wp2_with fail
            go_loopw [15] (fun ii wr => ∃ k : Nat, ii = .int .i64 (k : Int) ∧ k ≤ ms.length ∧ k ≤ 40 ∧ ∃ S, Writes p bf bs (fun j => w.heap.size + 1 ≤ j ∧ ¬ (w5.heap.size ≤ j ∧ j < w6.heap.size)) w6 S (cs5 ++ goodTo ms k) wr) (fun ii _ => 40 - (intOf ii).toNat)
            case atStart =>
              refine ⟨0, rfl, Nat.zero_le _, Nat.zero_le _, S5, _, ?_, HT6.out, Turned.refl _ _⟩
              rw [show cs5 ++ goodTo ms 0 = cs5 from List.append_nil _]
              exact HD6.out
            case round =>
              obtain ⟨k, rfl, hk1, hk2, S, ⟨v, hd, hfoot, hturn⟩⟩ := hrel
              have hTB : ∀ j, (w.heap.size + 1 ≤ j ∧ ¬ (w5.heap.size ≤ j ∧ j < w6.heap.size)) → w.heap.size + 1 ≤ j := fun _ h => h.1
              have hbw : Below w.heap.size w wr := HW6.out.trans (hturn.below (by omega) (fun j hj => by have := hj.1; omega))
              obtain ⟨cs, hcs⟩ : ∃ cs, cs = cs5 ++ goodTo ms k := ⟨_, rfl⟩
              have hgl3 := goodTo_len ms k
              rw [← hcs] at hd
              have hcl : cs.length ≤ 81 := by rw [hcs, List.length_append]; omega
              have HCS := Lib.hid hcs
              clear hcs
              by_cases hlt : k < ms.length ∧ k < 40
              · obtain ⟨hl1, hl2⟩ := hlt
                obtain ⟨q, hq⟩ : ∃ q, ms[k]? = some q := ⟨_, List.getElem?_eq_getElem hl1⟩
                obtain ⟨⟨gb, _, _, wqn, _, hcap, _, _⟩, sg, so, hSe, hr⟩ := HMS.out k q hq
                subst hSe
                have c1w : w.cell? ⟨sg, so + k * 5 + 1, none⟩ = some (.int .i64 q.n) := hr 1 _ rfl
                have c2w : w.cell? ⟨sg, so + k * 5 + 2, none⟩ = some (.slice q.A q.b.length q.bcap) := hr 2 _ rfl
                have lsg := World.block_lt_of_cell? w _ c1w
                have c1 : wr.cell? ⟨sg, so + k * 5 + 1, none⟩ = some (.int .i64 q.n) := (hbw.cell (p := ⟨sg, so + k * 5 + 1, none⟩) lsg).trans c1w
                have c2 : wr.cell? ⟨sg, so + k * 5 + 2, none⟩ = some (.slice q.A q.b.length q.bcap) := (hbw.cell (p := ⟨sg, so + k * 5 + 2, none⟩) lsg).trans c2w
                have hsgf : ¬ foot p bf bs v sg := fun h => by have h1 := hTB _ (hfoot _ h); have : sg < w.heap.size := lsg; omega
                have hW := write_any p bf bs v 12 0 (fun _ => none) S cs q.n q.b q.A q.bcap wr.drew hd (by omega) (by omega) (gb.below (w' := wr.drew) (B := w.heap.size) ⟨hbw.os, hbw.tape, hbw.output, hbw.size, hbw.block⟩ (Nat.le_refl _)) hcap
                  (fun hp g o e hf => by
                    obtain ⟨g', o', e', hc⟩ := gb 0 q.b[0] (List.getElem?_eq_getElem hp)
                    rw [e] at e'
                    injection e' with e'
                    have h1 := World.block_lt_of_cell? w _ hc
                    have h2 := hTB _ (hfoot _ hf)
                    have h3 : g = g' := (Addr.mk.inj e').1
                    have h4 : g' < w.heap.size := h1
                    omega)
                have HW := Lib.hid hW
                have hki : (k : Int) < (ms.length : Int) := by omega
                have hk4 : (k : Int) < 40 := by omega
                have hk0 : (0 : Int) ≤ (k : Int) := by omega
                have HFT := Lib.hid hfoot
                have HTN := Lib.hid hturn
                have HQ := Lib.hid hq
                have HSG := Lib.hid hsgf
                have HBW := Lib.hid hbw
                clear hfoot hturn hq hsgf hr c1w c2w hbw hW
                go_wp2_with fail
                go_region_held3 (fun x => x.cell? ⟨sg, so + k * 5 + 1, none⟩ = some (.int .i64 q.n) ∧ x.cell? ⟨sg, so + k * 5 + 2, none⟩ = some (.slice q.A q.b.length q.bcap))
                  ((go_split_ands; refine ⟨?_, ?_⟩ <;> first | assumption | exact ht2.cell c1 HSG.out | exact ht2.cell c2 HSG.out))
                  (first | (go_at_call 10; (with_reducible refine HW.out.mono ?_); rintro e w4 ⟨rfl, v2, hd2, hv2, ht2⟩))
                go_wp2_with fail
                go_roundw
                case rel =>
                  have hst : Step wr.drew p bf bs v 12 0 (fun _ => none) (wS 12 S q.n q.b) (wCs 12 cs q.n q.b) 0 (.returned (.int .i64 0)) w4 := ⟨rfl, v2, hd2, hv2, ht2⟩
                  have hwr := Writes.step (S := S) (cs := cs) HFT.out HTN.out (fun j hj => ⟨by omega, by omega⟩) hst
                  exact ⟨k + 1, by go_num, by omega, by omega, _, by rw [← goodTo_step HQ.out cs5, ← HCS.out]; exact hwr⟩
                case measure => simp [intOf]; omega
              · have HFT := Lib.hid hfoot
                have HTN := Lib.hid hturn
                have HBW := Lib.hid hbw
                have HDD := Lib.hid hd
                clear hfoot hturn hbw hd
                go_upto_region 17 with fail
                go_cut [85] from 78 to 99 (fun t wx => t = .bool false ∧ wr = wx)
                case first =>
                  by_cases hk3 : k < ms.length
                  · have hk4 : decide ((k : Int) < 40) = false := by simp; omega
                    have hk5 : (k : Int) < (ms.length : Int) := by omega
                    go_wp2_with fail
                    go_meet
                    exact ⟨rfl, rfl⟩
                  · have hk5 : (ms.length : Int) ≤ (k : Int) := by omega
                    go_wp2_with fail
                    go_meet
                    exact ⟨rfl, rfl⟩
                case rest =>
                  obtain ⟨rfl, rfl⟩ := hcut
                  obtain ⟨w7, rfl⟩ : ∃ w7, w7 = wr := ⟨_, rfl⟩
                  have hbox7 := HTN.out.obj HBX6.out (fun h => by have := h.1; omega)
                  have z1 : w7.cell? ⟨w.heap.size, 1, none⟩ = some (.int .i64 n) := cell_of_row _ _ 1 _ _ _ hbox7
                  have z3 : w7.cell? ⟨w.heap.size, 3, none⟩ = some (.slice K keep.length kcap) := cell_of_row _ _ 3 _ _ _ hbox7
                  have z4 : w7.cell? ⟨w.heap.size, 4, none⟩ = some (.int .i64 torn) := cell_of_row _ _ 4 _ _ _ hbox7
                  obtain ⟨_, gK, _, gn, wt, _, _, gkl⟩ := HO.out
                  have gkl' : keep.length ≤ 9223372036854775807 := gkl
                  obtain ⟨gn1, gn2⟩ := i64_bounds gn
                  have gn3 : -9223372036854775808 ≤ n := gn1
                  have gn4 : n ≤ 9223372036854775807 := gn2
                  have HGK := Lib.hid gK
                  clear gK gkl hbox7 gn1 gn2
                  obtain ⟨a0, ha0⟩ : ∃ a0 : Nat, (a0 : Int) = if n < 0 then -(n + 1) else n := ⟨(if n < 0 then -(n + 1) else n).toNat, by split <;> omega⟩
                  have HA0 := Lib.hid ha0
                  clear ha0
                  go_upto_if 103 with fail
                  go_cut [16] from 103 to 106 (fun t wx => t = .int .i64 (a0 : Int) ∧ w7 = wx)
                  case first =>
                    by_cases hneg : n < 0
                    · have e := HA0.out
                      rw [if_pos hneg] at e
                      have E := Lib.hid e
                      clear e
                      go_wp2_with fail
                      go_meet
                      exact ⟨by rw [E.out], rfl⟩
                    · have e := HA0.out
                      rw [if_neg hneg] at e
                      have hneg' : 0 ≤ n := by omega
                      have E := Lib.hid e
                      clear e hneg
                      go_wp2_with fail
                      go_meet
                      exact ⟨by rw [E.out], rfl⟩
                  case rest =>
                    obtain ⟨rfl, rfl⟩ := hcut
                    obtain ⟨A7, cap7, rfl, _, _, _, _, _⟩ := HDD.out.slice
                    have HK7 := Lib.hid hk1
                    have hle5 : cs5.length ≤ cs.length := by rw [HCS.out, List.length_append]; omega
                    obtain ⟨D, hD⟩ : ∃ D, D = cs.length - cs5.length := ⟨_, rfl⟩
                    obtain ⟨E, hE⟩ : ∃ E, E = D + 1 := ⟨_, rfl⟩
                    obtain ⟨r, hr⟩ : ∃ r, r = a0 % E := ⟨_, rfl⟩
                    have hr1 : r ≤ D := by have := Nat.mod_lt a0 (show 0 < E by omega); omega
                    have hD1 : D ≤ 81 := by omega
                    have hDc : cs5.length + D ≤ cs.length := by omega
                    have hE0 : 0 < E := by omega
                    have hsub : IntKind.i64.wrap ((cs.length : Int) - (cs5.length : Int)) = (D : Int) := by rw [IntWalk.i64_in _ (by omega)]; omega
                    have hadd : IntKind.i64.wrap ((D : Int) + 1) = (E : Int) := by rw [IntWalk.i64_in _ (by omega)]; omega
                    have hsum : IntKind.i64.wrap ((cs5.length : Int) + (r : Int)) = (cs5.length : Int) + (r : Int) := IntWalk.i64_in _ (by omega)
                    have hrT : (a0 : Int).tmod (E : Int) = (r : Int) := by
                      rw [Int.tmod_eq_emod_of_nonneg (by omega), hr, Int.natCast_emod]
                    have hmn : ¬ E = 0 := by omega
                    have hmi : ¬ (E : Int) = 0 := by omega
                    have ha63 : (a0 : Int) ≤ 9223372036854775807 := by have := HA0.out; split at this <;> omega
                    have e5 : red ((cs5.length : Int) + (r : Int)) (cs.length + 1) = cs5.length + r := by
                      unfold red
                      rw [if_neg (by omega), show ((cs5.length : Int) + (r : Int)).toNat = cs5.length + r by omega, Nat.mod_eq_of_lt (by omega)]
                    have etk : cs.take (cs5.length + r) = cs5 ++ (goodTo ms k).take r := by rw [HCS.out, List.take_length_add_append]
                    have hk7 : BoolsAt w7.drew K keep := fun j x hx => by
                      obtain ⟨g, o, e, hc⟩ := HGK.out j x hx
                      exact ⟨g, o, e, (HBW.out.cell (p := ⟨g, o + j, none⟩) (World.block_lt_of_cell? w _ hc)).trans hc⟩
                    have HCA7 : Hid (Calls Try.prog 17 #[.pointer (some ⟨p, 0, none⟩)] w7.drew fun e w' => e = .returned (.int .i64 (cs.length : Int)) ∧ w7.drew = w') := calls_is p cs.length cap7 A7 w7.drew HDD.out.cell3
                    have hcut := cut_in p bf bs _ 12 0 (fun _ => none) S cs ((cs5.length : Int) + (r : Int)) torn K kcap keep w7.drew HDD.out none32 (by omega) (by omega) (by go_wf) wt hk7 gkl'
                    unfold CutIs at hcut
                    rw [e5, etk] at hcut
                    have HCU := Lib.hid hcut
                    have HR := Lib.hid hr
                    clear hcut hk7 e5 etk hr hD hE
                    go_wp2_with fail
                    go_region_held3 (fun x => x.cell? ⟨w.heap.size, 3, none⟩ = some (.slice K keep.length kcap) ∧ x.cell? ⟨w.heap.size, 4, none⟩ = some (.int .i64 torn))
                      ((go_split_ands; refine ⟨?_, ?_⟩ <;> first | assumption | exact z3 | exact z4 | exact (hbx.cell (World.block_lt_of_cell? w7 _ z3)).trans z3 | exact (hbx.cell (World.block_lt_of_cell? w7 _ z4)).trans z4))
                      (first
                        | (go_at_call 17; (with_reducible refine HCA7.out.mono ?_); rintro e w' ⟨rfl, rfl⟩)
                        | (go_at_call 14; (with_reducible refine HCU.out.mono ?_); rintro e w8 ⟨kx, px, bfx, bsx, vx, hsx, rfl, hdx, hfx, hbx⟩))
                    have hb8 : Below w7.heap.size w7 w8 := ⟨hbx.os, hbx.tape, hbx.output, hbx.size, hbx.block⟩
                    have hok : ∀ c ∈ cs, c.ok := HDD.out.2.2.2.2.2
                    obtain ⟨CF, hCF⟩ : ∃ CF, CF = cutF (fun _ => none) (cs5 ++ (goodTo ms k).take r) kx keep torn := ⟨_, rfl⟩
                    have h32x : Blocks32 CF := by
                      rw [hCF]
                      refine blocks32_cutF none32 (fun c hc => hok c ?_) hsx.1
                      rw [HCS.out]
                      rcases List.mem_append.1 hc with h | h
                      · exact List.mem_append_left _ h
                      · exact List.mem_append_right _ (List.mem_of_mem_take h)
                    have hkin : Kin S5 (goodTo ms k) CF := by
                      rw [hCF]
                      rw [HCS5.out] at hsx ⊢
                      exact cutF_kin HLS5.out H325.out (fun c hc => ⟨(goodTo_mem ms k HK7.out c hc).1, hok c (by rw [HCS.out]; exact List.mem_append_right _ hc)⟩) r hsx keep torn
                    rw [← hCF] at hdx
                    have hwc : ∀ m : Nat, m < 12 → ∃ g, w8.cell? ⟨wb, m, none⟩ = some (.slice (some ⟨g, 0, none⟩) 32 32) ∧ w8.heap[g]? = some (.cells (bytesV ((S5 (m : Int)).getD zero32)).toArray 56 (0, 0)) := fun m hm => by
                      obtain ⟨g, hg, hc⟩ := was_cell HOW.out HGL.out (show m < i by omega)
                      obtain ⟨h1, h2⟩ := HWA.out m g hg
                      have h3 := lt_of_some h2
                      have h4 := HTN.out.size
                      refine ⟨g, (hb8.cell (p := ⟨wb, m, none⟩) (by show wb < w7.heap.size; omega)).trans (HTN.out.cell hc (fun h => h.2 ⟨by show w5.heap.size ≤ wb; omega, by show wb < w6.heap.size; omega⟩)), (hb8.block g (by omega)).trans (HTN.out.obj h2 (fun h => h.2 ⟨h1, h3⟩))⟩
                    have HDX := Lib.hid hdx
                    have HWC := Lib.hid hwc
                    have HKN := Lib.hid hkin
                    have H32X := Lib.hid h32x
                    have hw8 : Below w.heap.size w w8 := HBW.out.trans (hb8.mono HBW.out.size)
                    have HW8 := Lib.hid hw8
                    clear hbx hok hCF h32x hkin hdx hwc hsx hfx hb8 hw8 z1 z3 z4 hsub hadd hsum hrT hmn hmi HCA HCA7 HCU
                    go_wp2_with fail
                    go_loopw [18] (fun ii wr => ∃ m : Nat, ii = .int .i64 (m : Int) ∧ m ≤ 12 ∧ Below w8.heap.size w8 wr) (fun ii _ => 12 - (intOf ii).toNat)
                    case atStart => exact ⟨0, rfl, Nat.zero_le _, Below.refl _ _⟩
                    case round =>
                      obtain ⟨m, rfl, hm, hbr⟩ := hrel
                      obtain ⟨wq, rfl⟩ : ∃ wq, wq = wr := ⟨_, rfl⟩
                      by_cases hm12 : m < 12
                      · have hmi : (m : Int) < 12 := by omega
                        have hm0 : (0 : Int) ≤ (m : Int) := by omega
                        have hmI : (m : Int) < (i : Int) := by omega
                        obtain ⟨xl, hxl⟩ : ∃ xl, xl = (CF (m : Int)).getD zero32 := ⟨_, rfl⟩
                        obtain ⟨yl, hyl⟩ : ∃ yl, yl = (S5 (m : Int)).getD zero32 := ⟨_, rfl⟩
                        have hxll : xl.length = 32 := by rw [hxl]; exact getD32 H32X.out _
                        have hyll : yl.length = 32 := by rw [hyl]; exact getD32 H325.out _
                        have hR := read_in px bfx bsx vx 12 (0 + cs.length) CF (fun _ => none) [] (m : Int) wq (HDX.out.turned (T := fun _ => False) (Turned.of_below hbr) (fun _ _ h => h)) hm0 (by omega) (by omega) (fun l h => H32X.out _ l h) (fun _ h => by cases h)
                        have e1 : rd CF (fun _ => none) (m : Int) = xl := by
                          rw [hxl]
                          unfold rd
                          cases CF (m : Int) <;> rfl
                        rw [e1] at hR
                        obtain ⟨gy, hgy, hgb⟩ := HWC.out m hm12
                        rw [← hyl] at hgb
                        have HR9 := Lib.hid hR
                        have HXL := Lib.hid hxl
                        have HYL := Lib.hid hyl
                        have HXLL := Lib.hid hxll
                        have HYLL := Lib.hid hyll
                        have HGY := Lib.hid hgy
                        have HGB := Lib.hid hgb
                        have HBR := Lib.hid hbr
                        clear hR hxl hyl hxll hyll hgy hgb hbr e1
                        go_wp2_with fail
                        go_at_call 18
                        (with_reducible refine HR9.out.mono ?_)
                        rintro e w9 ⟨ga, rfl, hga, hla, hb9⟩
                        have hb89 : Below w8.heap.size w8 w9 := HBR.out.trans (hb9.mono HBR.out.size)
                        have cw : w9.cell? ⟨wb, m, none⟩ = some (.slice (some ⟨gy, 0, none⟩) 32 32) := (hb89.cell (p := ⟨wb, m, none⟩) (World.block_lt_of_cell? w8 _ HGY.out)).trans HGY.out
                        have hgb9 : w9.heap[gy]? = some (.cells (bytesV yl).toArray 56 (0, 0)) := (hb89.block _ (lt_of_some HGB.out)).trans HGB.out
                        have HGA9 := Lib.hid hga
                        have HGB9 := Lib.hid hgb9
                        have HB89 := Lib.hid hb89
                        clear hga hgb9 hb89 hb9
                        go_wp2_with fail
                        go_loopw [21] (fun ii wr => ∃ q : Nat, ii = .int .i64 (q : Int) ∧ q ≤ 32 ∧ Below w9.heap.size w9 wr) (fun ii _ => 32 - (intOf ii).toNat)
                        case atStart => exact ⟨0, rfl, Nat.zero_le _, Below.refl _ _⟩
                        case round =>
                          obtain ⟨q, rfl, hq, hb10⟩ := hrel
                          obtain ⟨wp, rfl⟩ : ∃ wp, wp = wr := ⟨_, rfl⟩
                          by_cases hq32 : q < 32
                          · have hqi : (q : Int) < 32 := by omega
                            have hq0 : (0 : Int) ≤ (q : Int) := by omega
                            obtain ⟨x, hx⟩ : ∃ x, xl[q]? = some x := ⟨_, List.getElem?_eq_getElem (by rw [HXLL.out]; exact hq32)⟩
                            obtain ⟨y, hy⟩ : ∃ y, yl[q]? = some y := ⟨_, List.getElem?_eq_getElem (by rw [HYLL.out]; exact hq32)⟩
                            have hA9 := byte_cell HGA9.out hx
                            have hC9 := byte_cell HGB9.out hy
                            have cA : wp.cell? ⟨ga, q, none⟩ = some (.int .u8 (x.toNat : Int)) := (hb10.cell (p := ⟨ga, q, none⟩) (lt_of_some HGA9.out)).trans hA9
                            have cB : wp.cell? ⟨wb, m, none⟩ = some (.slice (some ⟨gy, 0, none⟩) 32 32) := (hb10.cell (p := ⟨wb, m, none⟩) (World.block_lt_of_cell? w9 _ cw)).trans cw
                            have cC : wp.cell? ⟨gy, q, none⟩ = some (.int .u8 (y.toNat : Int)) := (hb10.cell (p := ⟨gy, q, none⟩) (lt_of_some HGB9.out)).trans hC9
                            have HX := Lib.hid hx
                            have HY := Lib.hid hy
                            have HA9 := Lib.hid hA9
                            have HB10 := Lib.hid hb10
                            clear hx hy hA9 hC9 hb10
                            go_wp2_with fail
                            go_region_held3 (fun W => W.cell? ⟨ga, q, none⟩ = some (.int .u8 (x.toNat : Int)) ∧ W.cell? ⟨wb, m, none⟩ = some (.slice (some ⟨gy, 0, none⟩) 32 32) ∧ W.cell? ⟨gy, q, none⟩ = some (.int .u8 (y.toNat : Int)))
                              ((go_split_ands; refine ⟨?_, ?_, ?_⟩ <;> first | assumption | exact cA | exact cB | exact cC))
                              (fail)
                            go_wp2_with fail
                            go_loopw [22, 23] (fun vv ii wr => ∃ (j : Nat) (f : Bool), vv = .bool f ∧ ii = .int .i64 (j : Int) ∧ f = fineTo ms m q x y j ∧ j ≤ ms.length ∧ j ≤ 40 ∧ Below w9.heap.size w9 wr) (fun _ ii _ => 40 - (intOf ii).toNat)
                            case atStart => exact ⟨0, _, rfl, rfl, rfl, Nat.zero_le _, Nat.zero_le _, HB10.out.drew⟩
                            case round =>
                              obtain ⟨j, f, rfl, rfl, hf, hj1, hj2, hb11⟩ := hrel
                              by_cases hlt2 : j < ms.length ∧ j < 40
                              · obtain ⟨hl1, hl2⟩ := hlt2
                                obtain ⟨o2, ho2⟩ : ∃ o2, ms[j]? = some o2 := ⟨_, List.getElem?_eq_getElem hl1⟩
                                obtain ⟨⟨gb, _, _, wqn, _, hcap, _, _⟩, sg, so, hSe, hr⟩ := HMS.out j o2 ho2
                                subst hSe
                                have hbw2 : Below w.heap.size w wr := HW8.out.trans ((HB89.out.trans (hb11.mono HB89.out.size)).mono HW8.out.size)
                                have c1w : w.cell? ⟨sg, so + j * 5 + 1, none⟩ = some (.int .i64 o2.n) := hr 1 _ rfl
                                have c2w : w.cell? ⟨sg, so + j * 5 + 2, none⟩ = some (.slice o2.A o2.b.length o2.bcap) := hr 2 _ rfl
                                have lsg := World.block_lt_of_cell? w _ c1w
                                have c1 : wr.cell? ⟨sg, so + j * 5 + 1, none⟩ = some (.int .i64 o2.n) := (hbw2.cell (p := ⟨sg, so + j * 5 + 1, none⟩) lsg).trans c1w
                                have c2 : wr.cell? ⟨sg, so + j * 5 + 2, none⟩ = some (.slice o2.A o2.b.length o2.bcap) := (hbw2.cell (p := ⟨sg, so + j * 5 + 2, none⟩) lsg).trans c2w
                                have cA2 : wr.cell? ⟨ga, q, none⟩ = some (.int .u8 (x.toNat : Int)) := (hb11.cell (p := ⟨ga, q, none⟩) (lt_of_some HGA9.out)).trans HA9.out
                                have hst := fineTo_step (n := m) (k := q) (x := x) (y := y) ho2
                                have hki : (j : Int) < (ms.length : Int) := by omega
                                have hk4 : (j : Int) < 40 := by omega
                                have hk0 : (0 : Int) ≤ (j : Int) := by omega
                                have HF := Lib.hid hf
                                have HST := Lib.hid hst
                                have HB11 := Lib.hid hb11
                                clear hf hst hb11 ho2 hr c1w c2w
                                cases f with
                                | true =>
                                  clear gb hbw2 cA2
                                  go_wp2_with fail
                                  go_quiet (fail)
                                  go_wp2_with fail
                                  go_roundw
                                  case rel => exact ⟨j + 1, true, rfl, by go_num, by rw [HST.out, ← HF.out]; rfl, by omega, by omega, belowN HB11.out _⟩
                                  case measure => simp [intOf]; omega
                                | false =>
                                  by_cases hn2 : o2.n = (m : Int)
                                  · rw [hn2] at c1
                                    by_cases hl3 : o2.b.length = 32
                                    · obtain ⟨z, hz⟩ : ∃ z, o2.b[q]? = some z := ⟨_, List.getElem?_eq_getElem (by omega)⟩
                                      obtain ⟨bg, bo, e, hcw⟩ := gb q z hz
                                      have cZ : wr.cell? ⟨bg, bo + q, none⟩ = some (.int .u8 (z.toNat : Int)) := (hbw2.cell (p := ⟨bg, bo + q, none⟩) (World.block_lt_of_cell? w _ hcw)).trans hcw
                                      rw [e, hl3] at c2
                                      have HN2 := Lib.hid hn2
                                      have HL3 := Lib.hid hl3
                                      have HZ := Lib.hid hz
                                      clear hn2 hl3 hz gb hbw2 e hcw
                                      go_wp2_with fail
                                      go_quiet (fail)
                                      go_wp2_with fail
                                      go_roundw
                                      case rel =>
                                        refine ⟨j + 1, _, rfl, by go_num, ?_, by omega, by omega, belowN HB11.out _⟩
                                        rw [HST.out, ← HF.out, HZ.out]
                                        by_cases e : z = x
                                        · subst e; simp [HN2.out, HL3.out]
                                        · have e2 : ¬ z.toNat = x.toNat := fun h => e (UInt8.toNat_inj.1 h)
                                          simp [e]
                                          omega
                                      case measure => simp [intOf]; omega
                                    · have hlb : ((o2.b.length : Int) == 32) = false := by simp; omega
                                      have HL3 := Lib.hid hl3
                                      have HN2 := Lib.hid hn2
                                      clear hl3 hn2 gb hbw2 cA2
                                      go_wp2_with fail
                                      go_quiet (fail)
                                      go_wp2_with fail
                                      go_roundw
                                      case rel => exact ⟨j + 1, false, rfl, by go_num, by rw [HST.out, ← HF.out]; simp [HL3.out], by omega, by omega, belowN HB11.out _⟩
                                      case measure => simp [intOf]; omega
                                  · have hnb : (o2.n == (m : Int)) = false := by simp; omega
                                    have HN2 := Lib.hid hn2
                                    clear hn2 gb hbw2 cA2
                                    go_wp2_with fail
                                    go_quiet (fail)
                                    go_wp2_with fail
                                    go_roundw
                                    case rel => exact ⟨j + 1, false, rfl, by go_num, by rw [HST.out, ← HF.out]; simp [HN2.out], by omega, by omega, belowN HB11.out _⟩
                                    case measure => simp [intOf]; omega
                              · have hjk : j = k := by omega
                                have hft : f = true := by
                                  rw [hf, hjk]
                                  refine fine_of_kin HK7.out HKN.out hq32 ?_ ?_
                                  · rw [← HXL.out]; exact HX.out
                                  · rw [← HYL.out]; exact HY.out
                                clear hjk hf
                                subst hft
                                have HB11 := Lib.hid hb11
                                clear hb11
                                go_upto_region 37 with fail
                                go_cut [172] from 165 to 208 (fun t wx => t = .bool false ∧ wr = wx)
                                case first =>
                                  by_cases hk3 : j < ms.length
                                  · have hk4 : decide ((j : Int) < 40) = false := by simp; omega
                                    have hk5 : (j : Int) < (ms.length : Int) := by omega
                                    go_wp2_with fail
                                    go_meet
                                    exact ⟨rfl, rfl⟩
                                  · have hk5 : (ms.length : Int) ≤ (j : Int) := by omega
                                    go_wp2_with fail
                                    go_meet
                                    exact ⟨rfl, rfl⟩
                                case rest =>
                                  obtain ⟨rfl, rfl⟩ := hcut
                                  go_wp2_with fail
                                  go_roundw
                                  case rel => exact ⟨q + 1, by go_num, by omega, HB11.out⟩
                                  case measure => simp [intOf]; omega
                          · have hq2 : (32 : Int) ≤ (q : Int) := by omega
                            have HB10 := Lib.hid hb10
                            clear hb10
                            go_wp2_with fail
                            go_roundw
                            case rel => exact ⟨m + 1, by go_num, by omega, HB89.out.trans (HB10.out.mono HB89.out.size)⟩
                            case measure => simp [intOf]; omega
                      · have hm2 : (12 : Int) ≤ (m : Int) := by omega
                        obtain ⟨A8, cap8, rfl, _, _, _, _, _⟩ := HDX.out.slice
                        have HCX : Hid (Calls Try.prog 17 #[.pointer (some ⟨px, 0, none⟩)] wq fun e w' => e = .returned (.int .i64 0) ∧ wq = w') := calls_is px 0 cap8 A8 wq (((hbr.cell (p := ⟨px, 3, none⟩) (World.block_lt_of_cell? w8 _ HDX.out.cell3)).trans HDX.out.cell3))
                        have HBR := Lib.hid hbr
                        clear hbr
                        go_wp2_with fail
                        go_at_call 17
                        (with_reducible refine HCX.out.mono ?_)
                        rintro e w' ⟨rfl, rfl⟩
                        go_wp2_with fail
                        go_ret
                        exact ⟨rfl, HW8.out.trans (HBR.out.mono HW8.out.size)⟩
end Go.Proofs.Ytmaopjgjjngjpaa
