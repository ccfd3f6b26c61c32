/-
  TreeMany: it returns true and turns nothing that was there, of any package that does what trees must. Condition: the arguments lie in memory; trees stay while a table of numbers turns.
-/
import Derived.Test.YtcjbhjbjkfgphaaTmanyp
import Derived.Test.YtcjbhjbjkfgphaaTalike
import Derived.StillTailTactics
import Derived.Deep.RegionHeld3
namespace Go.Proofs.Ytcjbhjbjkfgphaa
open Go.RowKit Go.Deep Go.Maps Go.Sort

/-- A table of numbers. -/
def IntTab (w : World) (b : Nat) : Prop := ∃ cs, w.heap[b]? = some (.cells cs 60 (0, 0)) ∧ ∀ (j : Nat) (v : Value), cs[j]? = some v → ∃ n, v = .int .i64 n
/-- Another world, but for one block. -/
structure OffB (b : Nat) (w w' : World) : Prop where
  block : ∀ k, k ≠ b → w'.heap[k]? = w.heap[k]?
theorem cntTo_le (th : Nat → Nat) : ∀ m, cntTo th m ≤ m
  | 0 => Nat.le_refl _
  | m + 1 => by
    unfold cntTo
    have := cntTo_le th m
    split <;> omega
section
variable {R : World → Option Addr → List UInt8 → Prop} {T : World → Option Addr → List FileM → Prop}

/-- Pairs of bytes one behind the other. -/
def PairsAt (w : World) (A : Option Addr) (ps : List (UInt8 × UInt8)) : Prop := ∀ (i : Nat) (q : UInt8 × UInt8), ps[i]? = some q → ∃ g o, A = some ⟨g, o, none⟩ ∧ w.cell? ⟨g, o + i * 2, none⟩ = some (.int .u8 (q.1.toNat : Int)) ∧ w.cell? ⟨g, o + i * 2 + 1, none⟩ = some (.int .u8 (q.2.toNat : Int))
theorem PairsAt.below {w w' : World} {A : Option Addr} {ps : List (UInt8 × UInt8)} (h : PairsAt w A ps) (hb : Below w.heap.size w w') : PairsAt w' A ps := fun i q hq => by
  obtain ⟨g, o, e, h1, h2⟩ := h i q hq
  have hl := World.block_lt_of_cell? _ _ h1
  exact ⟨g, o, e, by rw [World.cell?_of_block (hb.block g hl)]; exact h1, by rw [World.cell?_of_block (hb.block g hl)]; exact h2⟩
/-- Numbers one behind the other. -/
def NumsAt (w : World) (A : Option Addr) (ns : List Int) : Prop := ∀ (i : Nat) (n : Int), ns[i]? = some n → (Lit.int .i64 n).wf = true ∧ ∃ g o, A = some ⟨g, o, none⟩ ∧ w.cell? ⟨g, o + i, none⟩ = some (.int .i64 n)
theorem NumsAt.below {w w' : World} {A : Option Addr} {ns : List Int} (h : NumsAt w A ns) (hb : Below w.heap.size w w') : NumsAt w' A ns := fun i q hq => by
  obtain ⟨hw, g, o, e, h1⟩ := h i q hq
  exact ⟨hw, g, o, e, by rw [World.cell?_of_block (hb.block g (World.block_lt_of_cell? _ _ h1))]; exact h1⟩
/-- The table of versions in memory. -/
def tabC (th : Nat → Nat) : Array Value := ((List.range 676).map fun j => Value.int .i64 (th j : Int)).toArray
def TabAt (w : World) (b : Nat) (th : Nat → Nat) : Prop := w.heap[b]? = some (.cells (tabC th) 60 (0, 0))
theorem tabC_at (th : Nat → Nat) {j : Nat} (h : j < 676) : (tabC th)[j]? = some (.int .i64 (th j : Int)) := by
  unfold tabC
  rw [List.getElem?_toArray, List.getElem?_map, List.getElem?_range h]
  rfl
theorem tabC_set (th : Nat → Nat) {j v : Nat} (h : j < 676) : (tabC th).setIfInBounds j (.int .i64 (v : Int)) = tabC (setTh th j v) := by
  apply Array.ext'
  unfold tabC
  rw [List.setIfInBounds_toArray]
  apply List.ext_getElem?
  intro i
  rw [List.getElem?_set]
  by_cases hij : j = i
  · subst hij
    rw [if_pos rfl, if_pos (by simpa using h), List.getElem?_map, List.getElem?_range h]
    simp [setTh]
  · rw [if_neg hij, List.getElem?_map, List.getElem?_map]
    by_cases hi : i < 676
    · rw [List.getElem?_range hi]
      simp [setTh, Ne.symm hij]
    · rw [List.getElem?_eq_none (by simpa using hi)]
      rfl
theorem TabAt.below {w w' : World} {b : Nat} {th : Nat → Nat} (h : TabAt w b th) (hb : Below w.heap.size w w') : TabAt w' b th := (hb.block b (Array.getElem?_eq_some_iff.1 h).1).trans h
theorem TabAt.cell {w : World} {b : Nat} {th : Nat → Nat} (h : TabAt w b th) {j : Nat} (hj : j < 676) : w.cell? ⟨b, j, none⟩ = some (.int .i64 (th j : Int)) := by
  unfold TabAt at h
  simp [World.cell?, h, tabC_at th hj]
theorem frozen_tab {w : World} {b j : Nat} {th : Nat → Nat} (h : TabAt w b th) : w.frozen? ⟨b, j, none⟩ = false := by
  unfold TabAt at h
  simp [World.frozen?, h]
theorem TabAt.int {w : World} {b : Nat} {th : Nat → Nat} (h : TabAt w b th) : IntTab w b := ⟨_, h, fun j v hv => by
  unfold tabC at hv
  rw [List.getElem?_toArray, List.getElem?_map] at hv
  by_cases hj : j < 676
  · rw [List.getElem?_range hj] at hv
    injection hv with hv
    exact ⟨_, hv.symm⟩
  · rw [List.getElem?_eq_none (by simpa using hj)] at hv
    cases hv⟩
theorem TabAt.set {w : World} {b : Nat} {th : Nat → Nat} (h : TabAt w b th) {j v : Nat} (hj : j < 676) : TabAt (w.setCell ⟨b, j, none⟩ (.int .i64 (v : Int))).drew b (setTh th j v) := by
  have := Go.Joins.block_setCell (i := j) h (.int .i64 (v : Int))
  rw [tabC_set th hj] at this
  exact this
theorem off_set (w : World) (b j : Nat) (v : Value) : OffB b w (w.setCell ⟨b, j, none⟩ v).drew := ⟨fun k hk => Below.heap_setCell w _ v k hk⟩
theorem cell_set_ne {w : World} {b b' j k : Nat} {v : Value} (h : b' ≠ b) : (w.setCell ⟨b, j, none⟩ v).cell? ⟨b', k, none⟩ = w.cell? ⟨b', k, none⟩ := World.cell?_of_block (Below.heap_setCell w _ v _ h)
theorem cell_set_ned {w : World} {b b' j k : Nat} {v : Value} (h : b' ≠ b) : (w.setCell ⟨b, j, none⟩ v).drew.cell? ⟨b', k, none⟩ = w.cell? ⟨b', k, none⟩ := World.cell?_of_block (Below.heap_setCell w _ v _ h)
theorem run_two (x y : Nat) (hx : x < 256) (hy : y < 256) (W : World) : (convert 62 9 (.slice (some ⟨W.heap.size, 0, none⟩) 2 2)).run Try.prog (W.alloc (.cells #[.int .u8 (x : Int), .int .u8 (y : Int)] 5)) =
    .ok (.string ⟨#[UInt8.ofNat x, UInt8.ofNat y]⟩) (W.alloc (.cells #[.int .u8 (x : Int), .int .u8 (y : Int)] 5)) := by
  refine run_convert_bytes_back (P := Try.prog) _ 62 9 5 ⟨W.heap.size, 0, none⟩ 2 [UInt8.ofNat x, UInt8.ofNat y] Try.underlying62 Try.underlying5 Try.underlying9 (fun j hj => ?_)
  match j, hj with
  | 0, _ => simp [Addr.add, go_sem]; omega
  | 1, _ => simp [Addr.add, go_sem]; omega
theorem wf_small {i : Nat} (h : i < 60) : (Lit.int .i64 ((i : Int) + 1)).wf = true := by
  simp [Lit.wf, IntKind.min, IntKind.max, IntKind.bits, IntKind.signed]
  omega
/-- What holds where a round of the first two loops begins. -/
structure MJ (R : World → Option Addr → List UInt8 → Prop) (T : World → Option Addr → List FileM → Prop) (w wr : World) (p : Option Addr) (fs : List FileM) (th : Nat → Nat) (n : Nat) : Prop where
  tree : T wr p fs
  many : Many fs th
  few : fs.length ≤ n
  tab : TabAt wr w.heap.size th
  below : Below w.heap.size w wr
set_option maxRecDepth 100000 in
set_option maxHeartbeats 64000000 in
theorem many_any (F : RopeFew R) (K : TreeApi R T) (KO : ∀ {w w' : World} {p : Option Addr} {fs : List FileM} {b : Nat}, T w p fs → IntTab w b → OffB b w w' → T w' p fs) (PA : Option Addr) (ps : List (UInt8 × UInt8)) (pcap : Nat) (GA : Option Addr) (gs : List Int) (gcap : Nat) (w : World) (hps : PairsAt w PA ps) (hgs : NumsAt w GA gs) (hpl : ps.length ≤ maxLen) (hgl : gs.length ≤ maxLen) :
    Calls Try.prog 6 #[.slice PA ps.length pcap, .slice GA gs.length gcap] w (TrueIs w) := by
  have HAL := Lib.hid fun (W : World) => alive_any F K W
  have HPS := Lib.hid fun (W : World) (hb : Below w.heap.size w W) => hps.below hb
  have HGS := Lib.hid fun (W : World) (hb : Below w.heap.size w W) => hgs.below hb
  have HPL := Lib.hid hpl
  have HGL := Lib.hid hgl
  clear hps hgs hpl hgl
  go_enter Try.func6, Try.ntmps6
  go_upto_region 3 with fail
  obtain ⟨W0, hW0⟩ : ∃ W0, W0 = w.alloc (.cells (tabC fun _ => 0) 60) := ⟨_, rfl⟩
  have hz : (.cells Try.zeroCells60 60 : Obj) = .cells (tabC fun _ => 0) 60 := by kernel_rfl
  rw [hz, ← hW0]
  have HM0 := Lib.hid (show MJ R T w W0 none [] (fun _ => 0) 0 from ⟨K.nil _, Many.nil, by simp, by rw [hW0]; exact heap_alloc_new w _, by rw [hW0]; exact (Below.refl _ _).alloc (Nat.le_refl _) _⟩)
  clear hz hW0
  go_wp2_with fail
  go_loopw [5, 7, 8, 9, 10, 11] (fun tv iv _ _ _ _ wr => ∃ (p : Option Addr) (i : Nat) (fs : List FileM) (th : Nat → Nat), tv = .pointer p ∧ iv = .int .i64 (i : Int) ∧ Hid (MJ R T w wr p fs th i ∧ i ≤ 60)) (fun _ iv _ _ _ _ _ => 61 - (intOf iv).toNat)
  case atStart => exact ⟨none, 0, [], _, rfl, rfl, Lib.hid ⟨HM0.out, by omega⟩⟩
  case round =>
    obtain ⟨p, i, fs, th, rfl, rfl, HJ⟩ := hrel
    have hi60 := HJ.out.2
    by_cases hi : i < ps.length
    case neg =>
      have gi : decide ((i : Int) < (ps.length : Int)) = false := decide_eq_false (by omega)
      have gin : decide (i < ps.length) = false := decide_eq_false hi
      have gii : (ps.length : Int) ≤ (i : Int) := by omega
      have HJ60 := Lib.hid (show MJ R T w wr p fs th 60 from ⟨HJ.out.1.tree, HJ.out.1.many, Nat.le_trans HJ.out.1.few HJ.out.2, HJ.out.1.tab, HJ.out.1.below⟩)
      go_upto_region 14 with fail
      clear HJ hi60
      have HJ := HJ60
      clear HJ60
      clear gi gin gii hi
      go_wp2_with fail
      go_loopw [5, 12, 13, 14, 15, 16] (fun tv iv _ _ _ _ wr => ∃ (p : Option Addr) (j : Nat) (fs : List FileM) (th : Nat → Nat), tv = .pointer p ∧ iv = .int .i64 (j : Int) ∧ Hid (MJ R T w wr p fs th 60) ∧ j ≤ 60) (fun _ iv _ _ _ _ _ => 61 - (intOf iv).toNat)
      case atStart => exact ⟨p, 0, fs, th, rfl, rfl, HJ, by omega⟩
      case round =>
        clear HJ
        obtain ⟨p, j, fs, th, rfl, rfl, HJ, hj60⟩ := hrel
        rename_i wr
        by_cases hj : j < gs.length
        case neg =>
          have gj : decide ((j : Int) < (gs.length : Int)) = false := decide_eq_false (by omega)
          have gjn : decide (j < gs.length) = false := decide_eq_false hj
          have gji : (gs.length : Int) ≤ (j : Int) := by omega
          clear hj hj60
          go_wp2_with fail
          go_loopw [17, 18, 19, 20] (fun nv av _ _ wz => ∃ a : Nat, av = .int .i64 (a : Int) ∧ nv = .int .i64 (cntTo th (a * 26) : Int) ∧ Hid (a ≤ 26 ∧ T wz p fs ∧ TabAt wz w.heap.size th ∧ Below w.heap.size w wz)) (fun _ av _ _ _ => 27 - (intOf av).toNat)
          case atStart => exact ⟨0, rfl, rfl, Lib.hid ⟨by omega, HJ.out.tree, HJ.out.tab, HJ.out.below⟩⟩
          case round =>
            obtain ⟨a, rfl, rfl, HA⟩ := hrel
            have ha := HA.out.1
            by_cases ha26 : a < 26
            case neg =>
              have ga : decide ((a : Int) < 26) = false := decide_eq_false (by omega)
              have gan : decide (a < 26) = false := decide_eq_false ha26
              have gai : (26 : Int) ≤ (a : Int) := by omega
              have HLN := Lib.hid (show cntTo th (a * 26) = fs.length by rw [show a * 26 = 676 by omega]; exact HJ.out.many.2.symm)
              rw [HLN.out]
              clear ha ha26
              go_wp2_with fail
              go_at_call 7
              (with_reducible refine (HAL.out _).mono ?_)
              rintro e w5 ⟨rfl, hb5⟩
              have HT5 := Lib.hid (K.below HA.out.2.1 hb5)
              have HB5 := Lib.hid (HA.out.2.2.2.trans (hb5.mono HA.out.2.2.2.size))
              have HLE := Lib.hid (K.len_is HT5.out)
              clear hb5
              go_wp2_with fail
              go_at_call 20
              (with_reducible refine HLE.out.mono ?_)
              rintro e w6 ⟨rfl, hb6⟩
              have HT6 := Lib.hid (K.below HT5.out hb6)
              have HB6 := Lib.hid (HB5.out.trans (hb6.mono HB5.out.size))
              have HFI := Lib.hid (K.files_is HT6.out)
              clear hb6
              go_wp2_with fail
              go_at_call 18
              (with_reducible refine HFI.out.mono ?_)
              rintro e w7 ⟨fv, rfl, hfv, hb7⟩
              obtain ⟨LA, lc, rfl, _⟩ := hfv.form
              have HB7 := Lib.hid (HB6.out.trans (hb7.mono HB6.out.size))
              clear hfv hb7
              go_wp2_with fail
              go_ret
              exact ⟨by simp, HB7.out⟩
            case pos =>
            have ga : decide ((a : Int) < 26) = true := decide_eq_true (by omega)
            have gan : decide (a < 26) = true := decide_eq_true ha26
            have gai : (a : Int) < 26 := by omega
            have HA26 := Lib.hid ha26
            clear ha
            go_wp2_with fail
            go_loopw [17, 19, 20] (fun nv bv _ wz => ∃ b : Nat, bv = .int .i64 (b : Int) ∧ nv = .int .i64 (cntTo th (a * 26 + b) : Int) ∧ Hid (b ≤ 26 ∧ T wz p fs ∧ TabAt wz w.heap.size th ∧ Below w.heap.size w wz)) (fun _ bv _ _ => 27 - (intOf bv).toNat)
            case atStart => exact ⟨0, rfl, rfl, Lib.hid ⟨by omega, HA.out.2.1, HA.out.2.2.1, HA.out.2.2.2⟩⟩
            case round =>
              obtain ⟨b, rfl, rfl, HB⟩ := hrel
              have hb := HB.out.1
              by_cases hb26 : b < 26
              case neg =>
                have gb : decide ((b : Int) < 26) = false := decide_eq_false (by omega)
                have gbn : decide (b < 26) = false := decide_eq_false hb26
                have gbi : (26 : Int) ≤ (b : Int) := by omega
                obtain ⟨a1, ha1⟩ : ∃ a1, a1 = a + 1 := ⟨_, rfl⟩
                have HWA := Lib.hid (show IntKind.i64.wrap ((a : Int) + 1) = (a1 : Int) by rw [IntWalk.i64_in ((a : Int) + 1) (by have := HA26.out; omega)]; omega)
                have HN := Lib.hid (show cntTo th (a * 26 + b) = cntTo th (a1 * 26) by rw [show a1 * 26 = a * 26 + b by omega])
                have HMM := Lib.hid (show 27 - a1 < 27 - a ∧ a1 ≤ 26 by have := HA26.out; omega)
                rw [HN.out]
                have hwa := HWA.out
                clear hb hb26 ha1 ga gan gai ha26
                go_wp2_with fail
                exact ⟨⟨a1, rfl, rfl, Lib.hid ⟨HMM.out.2, HB.out.2.1, HB.out.2.2.1, HB.out.2.2.2⟩⟩, by simpa [intOf] using HMM.out.1⟩
              case pos =>
              have gb : decide ((b : Int) < 26) = true := decide_eq_true (by omega)
              have gbn : decide (b < 26) = true := decide_eq_true hb26
              have gbi : (b : Int) < 26 := by omega
              obtain ⟨x, hx⟩ : ∃ x, x = 97 + a := ⟨_, rfl⟩
              obtain ⟨y, hy⟩ : ∃ y, y = 97 + b := ⟨_, rfl⟩
              have HX := Lib.hid (show a < 26 ∧ b < 26 ∧ x < 256 ∧ y < 256 by have := HA26.out; omega)
              have HST := Lib.hid (show (⟨#[UInt8.ofNat x, UInt8.ofNat y]⟩ : ByteArray) = two (a * 26 + b) by rw [two_of a b (by omega), hx, hy])
              have HW1 : Hid (IntKind.i64.wrap (97 + (a : Int)) = (x : Int) ∧ IntKind.i64.wrap (97 + (b : Int)) = (y : Int) ∧ IntKind.u8.wrap (x : Int) = (x : Int) ∧ IntKind.u8.wrap (y : Int) = (y : Int)) := Lib.hid ⟨by
                rw [IntWalk.i64_in (97 + (a : Int)) (by have := HX.out; omega)]; omega, by
                rw [IntWalk.i64_in (97 + (b : Int)) (by have := HX.out; omega)]; omega, IntWalk.u8_in _ (by have := HX.out; omega), IntWalk.u8_in _ (by have := HX.out; omega)⟩
              have hcv := run_two x y (by have := HX.out; omega) (by have := HX.out; omega) wr
              obtain ⟨S, hS⟩ : ∃ S, S = two (a * 26 + b) := ⟨_, rfl⟩
              rw [HST.out, ← hS] at hcv
              have HSS := Lib.hid hS
              have HJ6 := Lib.hid (show a * 26 + b < 676 by omega)
              obtain ⟨b1, hb1⟩ : ∃ b1, b1 = b + 1 := ⟨_, rfl⟩
              have HWB := Lib.hid (show IntKind.i64.wrap ((b : Int) + 1) = (b1 : Int) by rw [IntWalk.i64_in ((b : Int) + 1) (by have := HX.out; omega)]; omega)
              have HMB := Lib.hid (show 27 - b1 < 27 - b ∧ b1 ≤ 26 by omega)
              have HCN := Lib.hid (show cntTo th (a * 26 + b1) = cntTo th (a * 26 + b) + if 0 < th (a * 26 + b) then 1 else 0 by rw [hb1]; rfl)
              have HCL := Lib.hid (show cntTo th (a * 26 + b) ≤ 676 from Nat.le_trans (cntTo_le th _) (by omega))
              obtain ⟨w1, w2, w3', w4'⟩ := HW1.out
              clear hx hy hS hb hb26 hb1 ha26
              go_upto_region 32 with fail
              have hbz : Below wr.heap.size wr (wr.alloc (.cells #[.int .u8 (x : Int), .int .u8 (y : Int)] 5)) := (Below.refl _ _).alloc (Nat.le_refl _) _
              obtain ⟨W2, hW2⟩ : ∃ W2, W2 = wr.alloc (.cells #[.int .u8 (x : Int), .int .u8 (y : Int)] 5) := ⟨_, rfl⟩
              rw [← hW2] at hbz ⊢
              have hbz1 : Below wr.heap.size wr W2.drew := hbz.drew
              have HBZ := Lib.hid hbz1
              have HT2 := Lib.hid (K.below HB.out.2.1 hbz1)
              have HTAB2 := Lib.hid (HB.out.2.2.1.below hbz1)
              have HB2 := Lib.hid (HB.out.2.2.2.trans (hbz1.mono HB.out.2.2.2.size))
              have HVE : Hid (Calls Try.prog 24 #[.pointer p, .string S] W2.drew (Answers (.int .i64 (th (a * 26 + b) : Int)) W2.drew)) := Lib.hid (by
                have h := K.version_is S HT2.out (by rw [HSS.out, two_size]; decide)
                rw [HSS.out, (HJ.out.many.1 _ HJ6.out).1, ← HSS.out] at h
                exact h)
              clear hW2 hbz hbz1 hcv
              have t0 : W2.drew.cell? ⟨w.heap.size, a * 26 + b, none⟩ = some (.int .i64 (th (a * 26 + b) : Int)) := HTAB2.out.cell HJ6.out
              go_region_held3 (fun wq => wq.cell? ⟨w.heap.size, a * 26 + b, none⟩ = some (.int .i64 (th (a * 26 + b) : Int)))
                ((first | exact t0 | assumption | exact HTAB3.out.cell HJ6.out))
                (first | (go_at_call 24; (with_reducible refine HVE.out.mono ?_); rintro e w5 ⟨rfl, hb5⟩; have HT3 := Lib.hid (K.below HT2.out hb5); have HTAB3 := Lib.hid (HTAB2.out.below hb5); have HB3 := Lib.hid (HB2.out.trans (hb5.mono HB2.out.size)); have t1 : w5.cell? ⟨w.heap.size, a * 26 + b, none⟩ = some (.int .i64 (th (a * 26 + b) : Int)) := HTAB3.out.cell HJ6.out; clear hb5 t0))
              all_goals
                generalize cntTo th (a * 26 + b) = cn at HCN HCL ⊢
                have hwb := HWB.out
                by_cases hp : 0 < th (a * 26 + b)
                · have gp1 : decide ((th (a * 26 + b) : Int) > 0) = true := decide_eq_true (by omega)
                  have gp1n : decide (0 < th (a * 26 + b)) = true := decide_eq_true hp
                  have gp1i : (0 : Int) < (th (a * 26 + b) : Int) := by omega
                  have hc1 := HCN.out
                  rw [if_pos hp] at hc1
                  have HC1 := Lib.hid hc1
                  have hwn : IntKind.i64.wrap ((cn : Int) + 1) = ((cn + 1 : Nat) : Int) := by rw [IntWalk.i64_in ((cn : Int) + 1) (by have := HCL.out; omega)]; omega
                  obtain ⟨c1, hc1e⟩ : ∃ c1, c1 = cn + 1 := ⟨_, rfl⟩
                  rw [← hc1e] at hwn HC1
                  clear hp hc1 hc1e
                  go_wp2_with fail
                  exact ⟨⟨b1, rfl, by rw [HC1.out], Lib.hid ⟨HMB.out.2, HT3.out, HTAB3.out, HB3.out⟩⟩, by simpa [intOf] using HMB.out.1⟩
                · have gp1 : decide ((th (a * 26 + b) : Int) > 0) = false := decide_eq_false (by omega)
                  have gp1n : decide (0 < th (a * 26 + b)) = false := decide_eq_false hp
                  have gp1i : (th (a * 26 + b) : Int) ≤ 0 := by omega
                  have hc1 := HCN.out
                  rw [if_neg hp, Nat.add_zero] at hc1
                  have HC1 := Lib.hid hc1
                  clear hp hc1
                  go_wp2_with fail
                  exact ⟨⟨b1, rfl, by rw [HC1.out], Lib.hid ⟨HMB.out.2, HT3.out, HTAB3.out, HB3.out⟩⟩, by simpa [intOf] using HMB.out.1⟩
        case pos =>
        have gj : decide ((j : Int) < (gs.length : Int)) = true := decide_eq_true (by omega)
        have gjn : decide (j < gs.length) = true := decide_eq_true hj
        have gji : (j : Int) < (gs.length : Int) := by omega
        by_cases hs : j < 60
        case neg =>
          have gl : decide ((j : Int) < 60) = false := decide_eq_false (by omega)
          have gln : decide (j < 60) = false := decide_eq_false hs
          have gli : (60 : Int) ≤ (j : Int) := by omega
          clear hj hs hj60
          go_wp2_with fail
          go_loopw [17, 18, 19, 20] (fun nv av _ _ wz => ∃ a : Nat, av = .int .i64 (a : Int) ∧ nv = .int .i64 (cntTo th (a * 26) : Int) ∧ Hid (a ≤ 26 ∧ T wz p fs ∧ TabAt wz w.heap.size th ∧ Below w.heap.size w wz)) (fun _ av _ _ _ => 27 - (intOf av).toNat)
          case atStart => exact ⟨0, rfl, rfl, Lib.hid ⟨by omega, HJ.out.tree, HJ.out.tab, HJ.out.below⟩⟩
          case round =>
            obtain ⟨a, rfl, rfl, HA⟩ := hrel
            have ha := HA.out.1
            by_cases ha26 : a < 26
            case neg =>
              have ga : decide ((a : Int) < 26) = false := decide_eq_false (by omega)
              have gan : decide (a < 26) = false := decide_eq_false ha26
              have gai : (26 : Int) ≤ (a : Int) := by omega
              have HLN := Lib.hid (show cntTo th (a * 26) = fs.length by rw [show a * 26 = 676 by omega]; exact HJ.out.many.2.symm)
              rw [HLN.out]
              clear ha ha26
              go_wp2_with fail
              go_at_call 7
              (with_reducible refine (HAL.out _).mono ?_)
              rintro e w5 ⟨rfl, hb5⟩
              have HT5 := Lib.hid (K.below HA.out.2.1 hb5)
              have HB5 := Lib.hid (HA.out.2.2.2.trans (hb5.mono HA.out.2.2.2.size))
              have HLE := Lib.hid (K.len_is HT5.out)
              clear hb5
              go_wp2_with fail
              go_at_call 20
              (with_reducible refine HLE.out.mono ?_)
              rintro e w6 ⟨rfl, hb6⟩
              have HT6 := Lib.hid (K.below HT5.out hb6)
              have HB6 := Lib.hid (HB5.out.trans (hb6.mono HB5.out.size))
              have HFI := Lib.hid (K.files_is HT6.out)
              clear hb6
              go_wp2_with fail
              go_at_call 18
              (with_reducible refine HFI.out.mono ?_)
              rintro e w7 ⟨fv, rfl, hfv, hb7⟩
              obtain ⟨LA, lc, rfl, _⟩ := hfv.form
              have HB7 := Lib.hid (HB6.out.trans (hb7.mono HB6.out.size))
              clear hfv hb7
              go_wp2_with fail
              go_ret
              exact ⟨by simp, HB7.out⟩
            case pos =>
            have ga : decide ((a : Int) < 26) = true := decide_eq_true (by omega)
            have gan : decide (a < 26) = true := decide_eq_true ha26
            have gai : (a : Int) < 26 := by omega
            have HA26 := Lib.hid ha26
            clear ha
            go_wp2_with fail
            go_loopw [17, 19, 20] (fun nv bv _ wz => ∃ b : Nat, bv = .int .i64 (b : Int) ∧ nv = .int .i64 (cntTo th (a * 26 + b) : Int) ∧ Hid (b ≤ 26 ∧ T wz p fs ∧ TabAt wz w.heap.size th ∧ Below w.heap.size w wz)) (fun _ bv _ _ => 27 - (intOf bv).toNat)
            case atStart => exact ⟨0, rfl, rfl, Lib.hid ⟨by omega, HA.out.2.1, HA.out.2.2.1, HA.out.2.2.2⟩⟩
            case round =>
              obtain ⟨b, rfl, rfl, HB⟩ := hrel
              have hb := HB.out.1
              by_cases hb26 : b < 26
              case neg =>
                have gb : decide ((b : Int) < 26) = false := decide_eq_false (by omega)
                have gbn : decide (b < 26) = false := decide_eq_false hb26
                have gbi : (26 : Int) ≤ (b : Int) := by omega
                obtain ⟨a1, ha1⟩ : ∃ a1, a1 = a + 1 := ⟨_, rfl⟩
                have HWA := Lib.hid (show IntKind.i64.wrap ((a : Int) + 1) = (a1 : Int) by rw [IntWalk.i64_in ((a : Int) + 1) (by have := HA26.out; omega)]; omega)
                have HN := Lib.hid (show cntTo th (a * 26 + b) = cntTo th (a1 * 26) by rw [show a1 * 26 = a * 26 + b by omega])
                have HMM := Lib.hid (show 27 - a1 < 27 - a ∧ a1 ≤ 26 by have := HA26.out; omega)
                rw [HN.out]
                have hwa := HWA.out
                clear hb hb26 ha1 ga gan gai ha26
                go_wp2_with fail
                exact ⟨⟨a1, rfl, rfl, Lib.hid ⟨HMM.out.2, HB.out.2.1, HB.out.2.2.1, HB.out.2.2.2⟩⟩, by simpa [intOf] using HMM.out.1⟩
              case pos =>
              have gb : decide ((b : Int) < 26) = true := decide_eq_true (by omega)
              have gbn : decide (b < 26) = true := decide_eq_true hb26
              have gbi : (b : Int) < 26 := by omega
              obtain ⟨x, hx⟩ : ∃ x, x = 97 + a := ⟨_, rfl⟩
              obtain ⟨y, hy⟩ : ∃ y, y = 97 + b := ⟨_, rfl⟩
              have HX := Lib.hid (show a < 26 ∧ b < 26 ∧ x < 256 ∧ y < 256 by have := HA26.out; omega)
              have HST := Lib.hid (show (⟨#[UInt8.ofNat x, UInt8.ofNat y]⟩ : ByteArray) = two (a * 26 + b) by rw [two_of a b (by omega), hx, hy])
              have HW1 : Hid (IntKind.i64.wrap (97 + (a : Int)) = (x : Int) ∧ IntKind.i64.wrap (97 + (b : Int)) = (y : Int) ∧ IntKind.u8.wrap (x : Int) = (x : Int) ∧ IntKind.u8.wrap (y : Int) = (y : Int)) := Lib.hid ⟨by
                rw [IntWalk.i64_in (97 + (a : Int)) (by have := HX.out; omega)]; omega, by
                rw [IntWalk.i64_in (97 + (b : Int)) (by have := HX.out; omega)]; omega, IntWalk.u8_in _ (by have := HX.out; omega), IntWalk.u8_in _ (by have := HX.out; omega)⟩
              have hcv := run_two x y (by have := HX.out; omega) (by have := HX.out; omega) wr
              obtain ⟨S, hS⟩ : ∃ S, S = two (a * 26 + b) := ⟨_, rfl⟩
              rw [HST.out, ← hS] at hcv
              have HSS := Lib.hid hS
              have HJ6 := Lib.hid (show a * 26 + b < 676 by omega)
              obtain ⟨b1, hb1⟩ : ∃ b1, b1 = b + 1 := ⟨_, rfl⟩
              have HWB := Lib.hid (show IntKind.i64.wrap ((b : Int) + 1) = (b1 : Int) by rw [IntWalk.i64_in ((b : Int) + 1) (by have := HX.out; omega)]; omega)
              have HMB := Lib.hid (show 27 - b1 < 27 - b ∧ b1 ≤ 26 by omega)
              have HCN := Lib.hid (show cntTo th (a * 26 + b1) = cntTo th (a * 26 + b) + if 0 < th (a * 26 + b) then 1 else 0 by rw [hb1]; rfl)
              have HCL := Lib.hid (show cntTo th (a * 26 + b) ≤ 676 from Nat.le_trans (cntTo_le th _) (by omega))
              obtain ⟨w1, w2, w3', w4'⟩ := HW1.out
              clear hx hy hS hb hb26 hb1 ha26
              go_upto_region 32 with fail
              have hbz : Below wr.heap.size wr (wr.alloc (.cells #[.int .u8 (x : Int), .int .u8 (y : Int)] 5)) := (Below.refl _ _).alloc (Nat.le_refl _) _
              obtain ⟨W2, hW2⟩ : ∃ W2, W2 = wr.alloc (.cells #[.int .u8 (x : Int), .int .u8 (y : Int)] 5) := ⟨_, rfl⟩
              rw [← hW2] at hbz ⊢
              have hbz1 : Below wr.heap.size wr W2.drew := hbz.drew
              have HBZ := Lib.hid hbz1
              have HT2 := Lib.hid (K.below HB.out.2.1 hbz1)
              have HTAB2 := Lib.hid (HB.out.2.2.1.below hbz1)
              have HB2 := Lib.hid (HB.out.2.2.2.trans (hbz1.mono HB.out.2.2.2.size))
              have HVE : Hid (Calls Try.prog 24 #[.pointer p, .string S] W2.drew (Answers (.int .i64 (th (a * 26 + b) : Int)) W2.drew)) := Lib.hid (by
                have h := K.version_is S HT2.out (by rw [HSS.out, two_size]; decide)
                rw [HSS.out, (HJ.out.many.1 _ HJ6.out).1, ← HSS.out] at h
                exact h)
              clear hW2 hbz hbz1 hcv
              have t0 : W2.drew.cell? ⟨w.heap.size, a * 26 + b, none⟩ = some (.int .i64 (th (a * 26 + b) : Int)) := HTAB2.out.cell HJ6.out
              go_region_held3 (fun wq => wq.cell? ⟨w.heap.size, a * 26 + b, none⟩ = some (.int .i64 (th (a * 26 + b) : Int)))
                ((first | exact t0 | assumption | exact HTAB3.out.cell HJ6.out))
                (first | (go_at_call 24; (with_reducible refine HVE.out.mono ?_); rintro e w5 ⟨rfl, hb5⟩; have HT3 := Lib.hid (K.below HT2.out hb5); have HTAB3 := Lib.hid (HTAB2.out.below hb5); have HB3 := Lib.hid (HB2.out.trans (hb5.mono HB2.out.size)); have t1 : w5.cell? ⟨w.heap.size, a * 26 + b, none⟩ = some (.int .i64 (th (a * 26 + b) : Int)) := HTAB3.out.cell HJ6.out; clear hb5 t0))
              all_goals
                generalize cntTo th (a * 26 + b) = cn at HCN HCL ⊢
                have hwb := HWB.out
                by_cases hp : 0 < th (a * 26 + b)
                · have gp1 : decide ((th (a * 26 + b) : Int) > 0) = true := decide_eq_true (by omega)
                  have gp1n : decide (0 < th (a * 26 + b)) = true := decide_eq_true hp
                  have gp1i : (0 : Int) < (th (a * 26 + b) : Int) := by omega
                  have hc1 := HCN.out
                  rw [if_pos hp] at hc1
                  have HC1 := Lib.hid hc1
                  have hwn : IntKind.i64.wrap ((cn : Int) + 1) = ((cn + 1 : Nat) : Int) := by rw [IntWalk.i64_in ((cn : Int) + 1) (by have := HCL.out; omega)]; omega
                  obtain ⟨c1, hc1e⟩ : ∃ c1, c1 = cn + 1 := ⟨_, rfl⟩
                  rw [← hc1e] at hwn HC1
                  clear hp hc1 hc1e
                  go_wp2_with fail
                  exact ⟨⟨b1, rfl, by rw [HC1.out], Lib.hid ⟨HMB.out.2, HT3.out, HTAB3.out, HB3.out⟩⟩, by simpa [intOf] using HMB.out.1⟩
                · have gp1 : decide ((th (a * 26 + b) : Int) > 0) = false := decide_eq_false (by omega)
                  have gp1n : decide (0 < th (a * 26 + b)) = false := decide_eq_false hp
                  have gp1i : (th (a * 26 + b) : Int) ≤ 0 := by omega
                  have hc1 := HCN.out
                  rw [if_neg hp, Nat.add_zero] at hc1
                  have HC1 := Lib.hid hc1
                  clear hp hc1
                  go_wp2_with fail
                  exact ⟨⟨b1, rfl, by rw [HC1.out], Lib.hid ⟨HMB.out.2, HT3.out, HTAB3.out, HB3.out⟩⟩, by simpa [intOf] using HMB.out.1⟩
        case pos =>
        have gl : decide ((j : Int) < 60) = true := decide_eq_true (by omega)
        have gln : decide (j < 60) = true := decide_eq_true hs
        have gli : (j : Int) < 60 := by omega
        by_cases hp : 0 < ps.length
        case neg =>
          have gp : decide ((ps.length : Int) > 0) = false := decide_eq_false (by omega)
          have gpn : decide (0 < ps.length) = false := decide_eq_false hp
          have gpi : (ps.length : Int) ≤ 0 := by omega
          clear hj hs hp hj60
          go_wp2_with fail
          go_loopw [17, 18, 19, 20] (fun nv av _ _ wz => ∃ a : Nat, av = .int .i64 (a : Int) ∧ nv = .int .i64 (cntTo th (a * 26) : Int) ∧ Hid (a ≤ 26 ∧ T wz p fs ∧ TabAt wz w.heap.size th ∧ Below w.heap.size w wz)) (fun _ av _ _ _ => 27 - (intOf av).toNat)
          case atStart => exact ⟨0, rfl, rfl, Lib.hid ⟨by omega, HJ.out.tree, HJ.out.tab, HJ.out.below⟩⟩
          case round =>
            obtain ⟨a, rfl, rfl, HA⟩ := hrel
            have ha := HA.out.1
            by_cases ha26 : a < 26
            case neg =>
              have ga : decide ((a : Int) < 26) = false := decide_eq_false (by omega)
              have gan : decide (a < 26) = false := decide_eq_false ha26
              have gai : (26 : Int) ≤ (a : Int) := by omega
              have HLN := Lib.hid (show cntTo th (a * 26) = fs.length by rw [show a * 26 = 676 by omega]; exact HJ.out.many.2.symm)
              rw [HLN.out]
              clear ha ha26
              go_wp2_with fail
              go_at_call 7
              (with_reducible refine (HAL.out _).mono ?_)
              rintro e w5 ⟨rfl, hb5⟩
              have HT5 := Lib.hid (K.below HA.out.2.1 hb5)
              have HB5 := Lib.hid (HA.out.2.2.2.trans (hb5.mono HA.out.2.2.2.size))
              have HLE := Lib.hid (K.len_is HT5.out)
              clear hb5
              go_wp2_with fail
              go_at_call 20
              (with_reducible refine HLE.out.mono ?_)
              rintro e w6 ⟨rfl, hb6⟩
              have HT6 := Lib.hid (K.below HT5.out hb6)
              have HB6 := Lib.hid (HB5.out.trans (hb6.mono HB5.out.size))
              have HFI := Lib.hid (K.files_is HT6.out)
              clear hb6
              go_wp2_with fail
              go_at_call 18
              (with_reducible refine HFI.out.mono ?_)
              rintro e w7 ⟨fv, rfl, hfv, hb7⟩
              obtain ⟨LA, lc, rfl, _⟩ := hfv.form
              have HB7 := Lib.hid (HB6.out.trans (hb7.mono HB6.out.size))
              clear hfv hb7
              go_wp2_with fail
              go_ret
              exact ⟨by simp, HB7.out⟩
            case pos =>
            have ga : decide ((a : Int) < 26) = true := decide_eq_true (by omega)
            have gan : decide (a < 26) = true := decide_eq_true ha26
            have gai : (a : Int) < 26 := by omega
            have HA26 := Lib.hid ha26
            clear ha
            go_wp2_with fail
            go_loopw [17, 19, 20] (fun nv bv _ wz => ∃ b : Nat, bv = .int .i64 (b : Int) ∧ nv = .int .i64 (cntTo th (a * 26 + b) : Int) ∧ Hid (b ≤ 26 ∧ T wz p fs ∧ TabAt wz w.heap.size th ∧ Below w.heap.size w wz)) (fun _ bv _ _ => 27 - (intOf bv).toNat)
            case atStart => exact ⟨0, rfl, rfl, Lib.hid ⟨by omega, HA.out.2.1, HA.out.2.2.1, HA.out.2.2.2⟩⟩
            case round =>
              obtain ⟨b, rfl, rfl, HB⟩ := hrel
              have hb := HB.out.1
              by_cases hb26 : b < 26
              case neg =>
                have gb : decide ((b : Int) < 26) = false := decide_eq_false (by omega)
                have gbn : decide (b < 26) = false := decide_eq_false hb26
                have gbi : (26 : Int) ≤ (b : Int) := by omega
                obtain ⟨a1, ha1⟩ : ∃ a1, a1 = a + 1 := ⟨_, rfl⟩
                have HWA := Lib.hid (show IntKind.i64.wrap ((a : Int) + 1) = (a1 : Int) by rw [IntWalk.i64_in ((a : Int) + 1) (by have := HA26.out; omega)]; omega)
                have HN := Lib.hid (show cntTo th (a * 26 + b) = cntTo th (a1 * 26) by rw [show a1 * 26 = a * 26 + b by omega])
                have HMM := Lib.hid (show 27 - a1 < 27 - a ∧ a1 ≤ 26 by have := HA26.out; omega)
                rw [HN.out]
                have hwa := HWA.out
                clear hb hb26 ha1 ga gan gai ha26
                go_wp2_with fail
                exact ⟨⟨a1, rfl, rfl, Lib.hid ⟨HMM.out.2, HB.out.2.1, HB.out.2.2.1, HB.out.2.2.2⟩⟩, by simpa [intOf] using HMM.out.1⟩
              case pos =>
              have gb : decide ((b : Int) < 26) = true := decide_eq_true (by omega)
              have gbn : decide (b < 26) = true := decide_eq_true hb26
              have gbi : (b : Int) < 26 := by omega
              obtain ⟨x, hx⟩ : ∃ x, x = 97 + a := ⟨_, rfl⟩
              obtain ⟨y, hy⟩ : ∃ y, y = 97 + b := ⟨_, rfl⟩
              have HX := Lib.hid (show a < 26 ∧ b < 26 ∧ x < 256 ∧ y < 256 by have := HA26.out; omega)
              have HST := Lib.hid (show (⟨#[UInt8.ofNat x, UInt8.ofNat y]⟩ : ByteArray) = two (a * 26 + b) by rw [two_of a b (by omega), hx, hy])
              have HW1 : Hid (IntKind.i64.wrap (97 + (a : Int)) = (x : Int) ∧ IntKind.i64.wrap (97 + (b : Int)) = (y : Int) ∧ IntKind.u8.wrap (x : Int) = (x : Int) ∧ IntKind.u8.wrap (y : Int) = (y : Int)) := Lib.hid ⟨by
                rw [IntWalk.i64_in (97 + (a : Int)) (by have := HX.out; omega)]; omega, by
                rw [IntWalk.i64_in (97 + (b : Int)) (by have := HX.out; omega)]; omega, IntWalk.u8_in _ (by have := HX.out; omega), IntWalk.u8_in _ (by have := HX.out; omega)⟩
              have hcv := run_two x y (by have := HX.out; omega) (by have := HX.out; omega) wr
              obtain ⟨S, hS⟩ : ∃ S, S = two (a * 26 + b) := ⟨_, rfl⟩
              rw [HST.out, ← hS] at hcv
              have HSS := Lib.hid hS
              have HJ6 := Lib.hid (show a * 26 + b < 676 by omega)
              obtain ⟨b1, hb1⟩ : ∃ b1, b1 = b + 1 := ⟨_, rfl⟩
              have HWB := Lib.hid (show IntKind.i64.wrap ((b : Int) + 1) = (b1 : Int) by rw [IntWalk.i64_in ((b : Int) + 1) (by have := HX.out; omega)]; omega)
              have HMB := Lib.hid (show 27 - b1 < 27 - b ∧ b1 ≤ 26 by omega)
              have HCN := Lib.hid (show cntTo th (a * 26 + b1) = cntTo th (a * 26 + b) + if 0 < th (a * 26 + b) then 1 else 0 by rw [hb1]; rfl)
              have HCL := Lib.hid (show cntTo th (a * 26 + b) ≤ 676 from Nat.le_trans (cntTo_le th _) (by omega))
              obtain ⟨w1, w2, w3', w4'⟩ := HW1.out
              clear hx hy hS hb hb26 hb1 ha26
              go_upto_region 32 with fail
              have hbz : Below wr.heap.size wr (wr.alloc (.cells #[.int .u8 (x : Int), .int .u8 (y : Int)] 5)) := (Below.refl _ _).alloc (Nat.le_refl _) _
              obtain ⟨W2, hW2⟩ : ∃ W2, W2 = wr.alloc (.cells #[.int .u8 (x : Int), .int .u8 (y : Int)] 5) := ⟨_, rfl⟩
              rw [← hW2] at hbz ⊢
              have hbz1 : Below wr.heap.size wr W2.drew := hbz.drew
              have HBZ := Lib.hid hbz1
              have HT2 := Lib.hid (K.below HB.out.2.1 hbz1)
              have HTAB2 := Lib.hid (HB.out.2.2.1.below hbz1)
              have HB2 := Lib.hid (HB.out.2.2.2.trans (hbz1.mono HB.out.2.2.2.size))
              have HVE : Hid (Calls Try.prog 24 #[.pointer p, .string S] W2.drew (Answers (.int .i64 (th (a * 26 + b) : Int)) W2.drew)) := Lib.hid (by
                have h := K.version_is S HT2.out (by rw [HSS.out, two_size]; decide)
                rw [HSS.out, (HJ.out.many.1 _ HJ6.out).1, ← HSS.out] at h
                exact h)
              clear hW2 hbz hbz1 hcv
              have t0 : W2.drew.cell? ⟨w.heap.size, a * 26 + b, none⟩ = some (.int .i64 (th (a * 26 + b) : Int)) := HTAB2.out.cell HJ6.out
              go_region_held3 (fun wq => wq.cell? ⟨w.heap.size, a * 26 + b, none⟩ = some (.int .i64 (th (a * 26 + b) : Int)))
                ((first | exact t0 | assumption | exact HTAB3.out.cell HJ6.out))
                (first | (go_at_call 24; (with_reducible refine HVE.out.mono ?_); rintro e w5 ⟨rfl, hb5⟩; have HT3 := Lib.hid (K.below HT2.out hb5); have HTAB3 := Lib.hid (HTAB2.out.below hb5); have HB3 := Lib.hid (HB2.out.trans (hb5.mono HB2.out.size)); have t1 : w5.cell? ⟨w.heap.size, a * 26 + b, none⟩ = some (.int .i64 (th (a * 26 + b) : Int)) := HTAB3.out.cell HJ6.out; clear hb5 t0))
              all_goals
                generalize cntTo th (a * 26 + b) = cn at HCN HCL ⊢
                have hwb := HWB.out
                by_cases hp : 0 < th (a * 26 + b)
                · have gp1 : decide ((th (a * 26 + b) : Int) > 0) = true := decide_eq_true (by omega)
                  have gp1n : decide (0 < th (a * 26 + b)) = true := decide_eq_true hp
                  have gp1i : (0 : Int) < (th (a * 26 + b) : Int) := by omega
                  have hc1 := HCN.out
                  rw [if_pos hp] at hc1
                  have HC1 := Lib.hid hc1
                  have hwn : IntKind.i64.wrap ((cn : Int) + 1) = ((cn + 1 : Nat) : Int) := by rw [IntWalk.i64_in ((cn : Int) + 1) (by have := HCL.out; omega)]; omega
                  obtain ⟨c1, hc1e⟩ : ∃ c1, c1 = cn + 1 := ⟨_, rfl⟩
                  rw [← hc1e] at hwn HC1
                  clear hp hc1 hc1e
                  go_wp2_with fail
                  exact ⟨⟨b1, rfl, by rw [HC1.out], Lib.hid ⟨HMB.out.2, HT3.out, HTAB3.out, HB3.out⟩⟩, by simpa [intOf] using HMB.out.1⟩
                · have gp1 : decide ((th (a * 26 + b) : Int) > 0) = false := decide_eq_false (by omega)
                  have gp1n : decide (0 < th (a * 26 + b)) = false := decide_eq_false hp
                  have gp1i : (th (a * 26 + b) : Int) ≤ 0 := by omega
                  have hc1 := HCN.out
                  rw [if_neg hp, Nat.add_zero] at hc1
                  have HC1 := Lib.hid hc1
                  clear hp hc1
                  go_wp2_with fail
                  exact ⟨⟨b1, rfl, by rw [HC1.out], Lib.hid ⟨HMB.out.2, HT3.out, HTAB3.out, HB3.out⟩⟩, by simpa [intOf] using HMB.out.1⟩
        case pos =>
        have gp : decide ((ps.length : Int) > 0) = true := decide_eq_true (by omega)
        have gpn : decide (0 < ps.length) = true := decide_eq_true hp
        have gpi : (0 : Int) < (ps.length : Int) := by omega
        obtain ⟨n, hn⟩ : ∃ n, gs[j]? = some n := ⟨_, List.getElem?_eq_getElem hj⟩
        obtain ⟨hnw, gg, go, hGA, kg⟩ := HGS.out wr HJ.out.below j n hn
        subst hGA
        obtain ⟨M, hM⟩ : ∃ M, M = min ps.length 60 := ⟨_, rfl⟩
        have hMp : 0 < M := by omega
        have hMl : M ≤ ps.length := by omega
        have hmin : (if (60 : Int) < (ps.length : Int) then (60 : Int) else (ps.length : Int)) = (M : Int) := by split <;> omega
        have hmin2 : (if 60 < ps.length then (60 : Int) else (ps.length : Int)) = (M : Int) := by split <;> omega
        have HPK := Lib.hid fun (W : World) => pick_any n M W hnw hMp (by omega)
        have hkl := pickN_lt (n := n) hMp
        obtain ⟨k, hk⟩ : ∃ k, k = pickN n M := ⟨_, rfl⟩
        rw [← hk] at HPK hkl
        have hkp : k < ps.length := by omega
        have hkpi : (k : Int) < (ps.length : Int) := by omega
        obtain ⟨q, hq⟩ : ∃ q, ps[k]? = some q := ⟨_, List.getElem?_eq_getElem hkp⟩
        obtain ⟨g, o, hPA, k0, k1⟩ := HPS.out wr HJ.out.below k q hq
        subst hPA
        have HI60 := Lib.hid hs
        clear hq hk hn hM hMl hnw hj hs hp hkl hj60
        obtain ⟨a, ha⟩ : ∃ a, a = q.1.toNat % 26 := ⟨_, rfl⟩
        obtain ⟨c, hc⟩ : ∃ c, c = q.2.toNat % 26 := ⟨_, rfl⟩
        obtain ⟨x, hx⟩ : ∃ x, x = 97 + a := ⟨_, rfl⟩
        obtain ⟨y, hy⟩ : ∃ y, y = 97 + c := ⟨_, rfl⟩
        have HA26 := Lib.hid (show a < 26 ∧ c < 26 ∧ x < 256 ∧ y < 256 by omega)
        have HST := Lib.hid (show (⟨#[UInt8.ofNat x, UInt8.ofNat y]⟩ : ByteArray) = two (a * 26 + c) by rw [two_of a c (by omega), hx, hy])
        have hra : (q.1.toNat : Int).tmod 26 = (a : Int) := by rw [ha]; rfl
        have hrc : (q.2.toNat : Int).tmod 26 = (c : Int) := by rw [hc]; rfl
        have hwx : IntKind.u8.wrap (97 + (a : Int)) = (x : Int) := by rw [IntWalk.u8_in (97 + (a : Int)) (by have := HA26.out; omega)]; omega
        have hwy : IntKind.u8.wrap (97 + (c : Int)) = (y : Int) := by rw [IntWalk.u8_in (97 + (c : Int)) (by have := HA26.out; omega)]; omega
        have hwa : IntKind.u8.wrap (a : Int) = (a : Int) := IntWalk.u8_in _ (by have := HA26.out; omega)
        have hwc : IntKind.u8.wrap (c : Int) = (c : Int) := IntWalk.u8_in _ (by have := HA26.out; omega)
        have HRT := Lib.hid fun (W : World) => run_two x y (by have := HA26.out; omega) (by have := HA26.out; omega) W
        clear ha hc hx hy
        go_wp2_with fail
        go_at_call 8
        (with_reducible refine (HPK.out _).mono ?_)
        rintro e w0 ⟨rfl, hw0⟩
        subst hw0
        go_upto_region 17 with fail
        have hobj := heap_alloc_new wr (.cells #[.int .u8 (q.1.toNat : Int), .int .u8 (q.2.toNat : Int)] 61)
        have hb1 : Below w.heap.size w (wr.alloc (.cells #[.int .u8 (q.1.toNat : Int), .int .u8 (q.2.toNat : Int)] 61)) := HJ.out.below.alloc HJ.out.below.size _
        have hbn : Below wr.heap.size wr (wr.alloc (.cells #[.int .u8 (q.1.toNat : Int), .int .u8 (q.2.toNat : Int)] 61)) := (Below.refl _ _).alloc (Nat.le_refl _) _
        obtain ⟨W1, hW1⟩ : ∃ W1, W1 = wr.alloc (.cells #[.int .u8 (q.1.toNat : Int), .int .u8 (q.2.toNat : Int)] 61) := ⟨_, rfl⟩
        rw [← hW1] at hobj hb1 hbn ⊢
        have HOB := Lib.hid hobj
        have HB1 := Lib.hid hb1
        have HBN := Lib.hid hbn
        have m0 : W1.cell? ⟨wr.heap.size, 0, none⟩ = some (.int .u8 (q.1.toNat : Int)) := by simp [World.cell?, hobj]
        have m1 : W1.cell? ⟨wr.heap.size, 1, none⟩ = some (.int .u8 (q.2.toNat : Int)) := by simp [World.cell?, hobj]
        have hcv := HRT.out W1
        obtain ⟨S, hS⟩ : ∃ S, S = two (a * 26 + c) := ⟨_, rfl⟩
        rw [HST.out, ← hS] at hcv
        have HSS := Lib.hid hS
        clear hW1 hobj hb1 hbn hS
        clear kg k0 k1
        go_upto_region 18 with fail
        have hb2n : Below wr.heap.size wr (W1.alloc (.cells #[.int .u8 (x : Int), .int .u8 (y : Int)] 5)) := HBN.out.alloc HBN.out.size _
        have hb2 : Below w.heap.size w (W1.alloc (.cells #[.int .u8 (x : Int), .int .u8 (y : Int)] 5)) := HB1.out.alloc HB1.out.size _
        have hb21 : Below W1.heap.size W1 (W1.alloc (.cells #[.int .u8 (x : Int), .int .u8 (y : Int)] 5)) := (Below.refl _ _).alloc (Nat.le_refl _) _
        obtain ⟨W2, hW2⟩ : ∃ W2, W2 = W1.alloc (.cells #[.int .u8 (x : Int), .int .u8 (y : Int)] 5) := ⟨_, rfl⟩
        rw [← hW2] at hb2n hb2 hb21 ⊢
        have HJ6 := Lib.hid (show a * 26 + c < 676 by have := HA26.out; omega)
        have HT2 := Lib.hid (K.below HJ.out.tree hb2n)
        have HB2N := Lib.hid hb2n
        have HB2 := Lib.hid hb2
        have HO2 := Lib.hid ((hb21.block wr.heap.size (Array.getElem?_eq_some_iff.1 HOB.out).1).trans HOB.out)
        clear hW2 hb2 hb2n hb21 hcv m0 m1
        obtain ⟨j1, hj1⟩ : ∃ j1, j1 = j + 1 := ⟨_, rfl⟩
        have HWJ := Lib.hid (show IntKind.i64.wrap ((j : Int) + 1) = (j1 : Int) by rw [IntWalk.i64_in ((j : Int) + 1) (by have := HI60.out; omega)]; omega)
        have HMM := Lib.hid (show 61 - j1 < 61 - j ∧ j1 ≤ 60 by have := HI60.out; omega)
        have HMD := Lib.hid (HJ.out.many.drop (K.rise HJ.out.tree) HJ6.out)
        clear hj1
        by_cases hf : findF fs S = none
        case pos =>
          have HTH := Lib.hid (show th (a * 26 + c) = 0 by rw [HSS.out] at hf; exact (HJ.out.many.1 _ HJ6.out).2.1 hf)
          have HDR := Lib.hid (K.drop_no S HT2.out (by rw [HSS.out, two_size]; decide) hf)
          have HFD := Lib.hid (dropF_none hf)
          clear hf
          go_wp2_with fail
          go_at_call 12
          (with_reducible refine HDR.out.mono ?_)
          rintro e w3 ⟨p', rfl, hb3⟩
          have hT3 := K.below HT2.out hb3
          have HT3 := Lib.hid hT3
          have HB3 := Lib.hid (HB2.out.trans (hb3.mono HB2.out.size))
          have ho3 := (hb3.block wr.heap.size (Array.getElem?_eq_some_iff.1 HO2.out).1).trans HO2.out
          have htab := HJ.out.tab.below (HB2N.out.trans (hb3.mono HB2N.out.size))
          have HTAB := Lib.hid htab
          have m0 : w3.cell? ⟨wr.heap.size, 0, none⟩ = some (.int .u8 (q.1.toNat : Int)) := by simp [World.cell?, ho3]
          have m1 : w3.cell? ⟨wr.heap.size, 1, none⟩ = some (.int .u8 (q.2.toNat : Int)) := by simp [World.cell?, ho3]
          clear hT3 hb3 ho3 htab
          have ht0 : w3.cell? ⟨w.heap.size, a * 26 + c, none⟩ = some (.int .i64 (th (a * 26 + c) : Int)) := HTAB.out.cell HJ6.out
          have hf0 : w3.frozen? ⟨w.heap.size, a * 26 + c, none⟩ = false := frozen_tab HTAB.out
          have hbb : wr.heap.size ≠ w.heap.size := by have h1 := (Array.getElem?_eq_some_iff.1 HJ.out.tab).1; omega
          have ha26 : (a : Int) < 26 := by have := HA26.out; omega
          have hc26 : (c : Int) < 26 := by have := HA26.out; omega
          have ha26n : a < 26 := HA26.out.1
          have hc26n : c < 26 := HA26.out.2.1
          have hth := HTH.out
          rw [hth] at ht0
          clear hth
          go_upto_region 19 with fail
          go_quiet (fail)
          go_wp2_with fail
          generalize hw4 : w3.drewN _ = w4
          have hb34 : Below w3.heap.size w3 w4 := by rw [← hw4]; exact ⟨rfl, rfl, rfl, Nat.le_refl _, fun _ _ => rfl⟩
          have HT4 := Lib.hid (K.below HT3.out hb34)
          have HTAB4 := Lib.hid (HTAB.out.below hb34)
          have HB4 := Lib.hid (HB3.out.trans (hb34.mono HB3.out.size))
          have p0 : w4.cell? ⟨wr.heap.size, 0, none⟩ = some (.int .u8 (q.1.toNat : Int)) := by rw [← hw4]; exact m0
          have p1 : w4.cell? ⟨wr.heap.size, 1, none⟩ = some (.int .u8 (q.2.toNat : Int)) := by rw [← hw4]; exact m1
          have HNX := Lib.hid (show MJ R T w (w4.setCell ⟨w.heap.size, a * 26 + c, none⟩ (.int .i64 ((0 : Nat) : Int))).drew p fs (setTh th (a * 26 + c) 0) 60 from ⟨KO HT4.out HTAB4.out.int (off_set _ _ _ _), (by have h := HMD.out; rw [← HSS.out, HFD.out] at h; exact h), HJ.out.few, HTAB4.out.set HJ6.out, (HB4.out.setCell (Nat.le_refl _) _).drew⟩)
          have hwj := HWJ.out
          clear hw4 hb34 m0 m1 ht0 hf0 gl gln gli
          have ht0 : w4.cell? ⟨w.heap.size, a * 26 + c, none⟩ = some (.int .i64 (th (a * 26 + c) : Int)) := HTAB4.out.cell HJ6.out
          have hf0 : w4.frozen? ⟨w.heap.size, a * 26 + c, none⟩ = false := frozen_tab HTAB4.out
          go_region_held3 (fun wz => wz.cell? ⟨wr.heap.size, 0, none⟩ = some (.int .u8 (q.1.toNat : Int)) ∧ wz.cell? ⟨wr.heap.size, 1, none⟩ = some (.int .u8 (q.2.toNat : Int)))
            ((first | exact ⟨p0, p1⟩ | assumption | exact ⟨(cell_set_ne hbb).trans p0, (cell_set_ne hbb).trans p1⟩ | exact ⟨(cell_set_ned hbb).trans p0, (cell_set_ned hbb).trans p1⟩))
            (first | fail)
          go_wp2_with fail
          exact ⟨⟨p, j1, _, _, rfl, rfl, HNX, HMM.out.2⟩, by simpa [intOf] using HMM.out.1⟩
        case neg =>
          have HTH := Lib.hid (show 0 < th (a * 26 + c) by rw [HSS.out] at hf; exact Nat.pos_of_ne_zero fun e => hf ((HJ.out.many.1 _ HJ6.out).2.2 e))
          have HDR := Lib.hid (K.drop_ok S HT2.out hf)
          clear hf
          go_wp2_with fail
          go_at_call 12
          (with_reducible refine HDR.out.mono ?_)
          rintro e w3 ⟨p', rfl, hT3, hb3⟩
          have HT3 := Lib.hid hT3
          have HB3 := Lib.hid (HB2.out.trans (hb3.mono HB2.out.size))
          have ho3 := (hb3.block wr.heap.size (Array.getElem?_eq_some_iff.1 HO2.out).1).trans HO2.out
          have htab := HJ.out.tab.below (HB2N.out.trans (hb3.mono HB2N.out.size))
          have HTAB := Lib.hid htab
          have m0 : w3.cell? ⟨wr.heap.size, 0, none⟩ = some (.int .u8 (q.1.toNat : Int)) := by simp [World.cell?, ho3]
          have m1 : w3.cell? ⟨wr.heap.size, 1, none⟩ = some (.int .u8 (q.2.toNat : Int)) := by simp [World.cell?, ho3]
          clear hT3 hb3 ho3 htab
          have ht0 : w3.cell? ⟨w.heap.size, a * 26 + c, none⟩ = some (.int .i64 (th (a * 26 + c) : Int)) := HTAB.out.cell HJ6.out
          have hf0 : w3.frozen? ⟨w.heap.size, a * 26 + c, none⟩ = false := frozen_tab HTAB.out
          have hbb : wr.heap.size ≠ w.heap.size := by have h1 := (Array.getElem?_eq_some_iff.1 HJ.out.tab).1; omega
          have ha26 : (a : Int) < 26 := by have := HA26.out; omega
          have hc26 : (c : Int) < 26 := by have := HA26.out; omega
          have ha26n : a < 26 := HA26.out.1
          have hc26n : c < 26 := HA26.out.2.1
          have hv1 : decide ((th (a * 26 + c) : Int) > 0) = true := decide_eq_true (by have := HTH.out; omega)
          have hv1n : decide (0 < th (a * 26 + c)) = true := decide_eq_true HTH.out
          have hv1i : (0 : Int) < (th (a * 26 + c) : Int) := by have := HTH.out; omega
          go_upto_region 19 with fail
          go_quiet (fail)
          go_wp2_with fail
          generalize hw4 : w3.drewN _ = w4
          have hb34 : Below w3.heap.size w3 w4 := by rw [← hw4]; exact ⟨rfl, rfl, rfl, Nat.le_refl _, fun _ _ => rfl⟩
          have HT4 := Lib.hid ((HSS.out ▸ K.below HT3.out hb34 : T w4 p' (dropF fs (two (a * 26 + c)))))
          have HTAB4 := Lib.hid (HTAB.out.below hb34)
          have HB4 := Lib.hid (HB3.out.trans (hb34.mono HB3.out.size))
          have p0 : w4.cell? ⟨wr.heap.size, 0, none⟩ = some (.int .u8 (q.1.toNat : Int)) := by rw [← hw4]; exact m0
          have p1 : w4.cell? ⟨wr.heap.size, 1, none⟩ = some (.int .u8 (q.2.toNat : Int)) := by rw [← hw4]; exact m1
          have HNX := Lib.hid (show MJ R T w (w4.setCell ⟨w.heap.size, a * 26 + c, none⟩ (.int .i64 ((0 : Nat) : Int))).drew p' (dropF fs (two (a * 26 + c))) (setTh th (a * 26 + c) 0) 60 from ⟨KO HT4.out HTAB4.out.int (off_set _ _ _ _), HMD.out, Nat.le_trans (dropF_length_le fs _) HJ.out.few, HTAB4.out.set HJ6.out, (HB4.out.setCell (Nat.le_refl _) _).drew⟩)
          have hwj := HWJ.out
          clear hw4 hb34 m0 m1 ht0 hf0 gl gln gli hv1 hv1n hv1i
          have ht0 : w4.cell? ⟨w.heap.size, a * 26 + c, none⟩ = some (.int .i64 (th (a * 26 + c) : Int)) := HTAB4.out.cell HJ6.out
          have hf0 : w4.frozen? ⟨w.heap.size, a * 26 + c, none⟩ = false := frozen_tab HTAB4.out
          go_region_held3 (fun wz => wz.cell? ⟨wr.heap.size, 0, none⟩ = some (.int .u8 (q.1.toNat : Int)) ∧ wz.cell? ⟨wr.heap.size, 1, none⟩ = some (.int .u8 (q.2.toNat : Int)))
            ((first | exact ⟨p0, p1⟩ | assumption | exact ⟨(cell_set_ne hbb).trans p0, (cell_set_ne hbb).trans p1⟩ | exact ⟨(cell_set_ned hbb).trans p0, (cell_set_ned hbb).trans p1⟩))
            (first | fail)
          go_wp2_with fail
          exact ⟨⟨p', j1, _, _, rfl, rfl, HNX, HMM.out.2⟩, by simpa [intOf] using HMM.out.1⟩
    case pos =>
    have gi : decide ((i : Int) < (ps.length : Int)) = true := decide_eq_true (by omega)
    have gin : decide (i < ps.length) = true := decide_eq_true hi
    have gii : (i : Int) < (ps.length : Int) := by omega
    by_cases hs : i < 60
    case neg =>
      have gl : decide ((i : Int) < 60) = false := decide_eq_false (by omega)
      have gln : decide (i < 60) = false := decide_eq_false hs
      have gli : (60 : Int) ≤ (i : Int) := by omega
      have HJ60 := Lib.hid (show MJ R T w wr p fs th 60 from ⟨HJ.out.1.tree, HJ.out.1.many, Nat.le_trans HJ.out.1.few HJ.out.2, HJ.out.1.tab, HJ.out.1.below⟩)
      go_upto_region 14 with fail
      clear HJ hi60
      have HJ := HJ60
      clear HJ60
      clear gi gin gii hi gl gln gli hs
      go_wp2_with fail
      go_loopw [5, 12, 13, 14, 15, 16] (fun tv iv _ _ _ _ wr => ∃ (p : Option Addr) (j : Nat) (fs : List FileM) (th : Nat → Nat), tv = .pointer p ∧ iv = .int .i64 (j : Int) ∧ Hid (MJ R T w wr p fs th 60) ∧ j ≤ 60) (fun _ iv _ _ _ _ _ => 61 - (intOf iv).toNat)
      case atStart => exact ⟨p, 0, fs, th, rfl, rfl, HJ, by omega⟩
      case round =>
        clear HJ
        obtain ⟨p, j, fs, th, rfl, rfl, HJ, hj60⟩ := hrel
        rename_i wr
        by_cases hj : j < gs.length
        case neg =>
          have gj : decide ((j : Int) < (gs.length : Int)) = false := decide_eq_false (by omega)
          have gjn : decide (j < gs.length) = false := decide_eq_false hj
          have gji : (gs.length : Int) ≤ (j : Int) := by omega
          clear hj hj60
          go_wp2_with fail
          go_loopw [17, 18, 19, 20] (fun nv av _ _ wz => ∃ a : Nat, av = .int .i64 (a : Int) ∧ nv = .int .i64 (cntTo th (a * 26) : Int) ∧ Hid (a ≤ 26 ∧ T wz p fs ∧ TabAt wz w.heap.size th ∧ Below w.heap.size w wz)) (fun _ av _ _ _ => 27 - (intOf av).toNat)
          case atStart => exact ⟨0, rfl, rfl, Lib.hid ⟨by omega, HJ.out.tree, HJ.out.tab, HJ.out.below⟩⟩
          case round =>
            obtain ⟨a, rfl, rfl, HA⟩ := hrel
            have ha := HA.out.1
            by_cases ha26 : a < 26
            case neg =>
              have ga : decide ((a : Int) < 26) = false := decide_eq_false (by omega)
              have gan : decide (a < 26) = false := decide_eq_false ha26
              have gai : (26 : Int) ≤ (a : Int) := by omega
              have HLN := Lib.hid (show cntTo th (a * 26) = fs.length by rw [show a * 26 = 676 by omega]; exact HJ.out.many.2.symm)
              rw [HLN.out]
              clear ha ha26
              go_wp2_with fail
              go_at_call 7
              (with_reducible refine (HAL.out _).mono ?_)
              rintro e w5 ⟨rfl, hb5⟩
              have HT5 := Lib.hid (K.below HA.out.2.1 hb5)
              have HB5 := Lib.hid (HA.out.2.2.2.trans (hb5.mono HA.out.2.2.2.size))
              have HLE := Lib.hid (K.len_is HT5.out)
              clear hb5
              go_wp2_with fail
              go_at_call 20
              (with_reducible refine HLE.out.mono ?_)
              rintro e w6 ⟨rfl, hb6⟩
              have HT6 := Lib.hid (K.below HT5.out hb6)
              have HB6 := Lib.hid (HB5.out.trans (hb6.mono HB5.out.size))
              have HFI := Lib.hid (K.files_is HT6.out)
              clear hb6
              go_wp2_with fail
              go_at_call 18
              (with_reducible refine HFI.out.mono ?_)
              rintro e w7 ⟨fv, rfl, hfv, hb7⟩
              obtain ⟨LA, lc, rfl, _⟩ := hfv.form
              have HB7 := Lib.hid (HB6.out.trans (hb7.mono HB6.out.size))
              clear hfv hb7
              go_wp2_with fail
              go_ret
              exact ⟨by simp, HB7.out⟩
            case pos =>
            have ga : decide ((a : Int) < 26) = true := decide_eq_true (by omega)
            have gan : decide (a < 26) = true := decide_eq_true ha26
            have gai : (a : Int) < 26 := by omega
            have HA26 := Lib.hid ha26
            clear ha
            go_wp2_with fail
            go_loopw [17, 19, 20] (fun nv bv _ wz => ∃ b : Nat, bv = .int .i64 (b : Int) ∧ nv = .int .i64 (cntTo th (a * 26 + b) : Int) ∧ Hid (b ≤ 26 ∧ T wz p fs ∧ TabAt wz w.heap.size th ∧ Below w.heap.size w wz)) (fun _ bv _ _ => 27 - (intOf bv).toNat)
            case atStart => exact ⟨0, rfl, rfl, Lib.hid ⟨by omega, HA.out.2.1, HA.out.2.2.1, HA.out.2.2.2⟩⟩
            case round =>
              obtain ⟨b, rfl, rfl, HB⟩ := hrel
              have hb := HB.out.1
              by_cases hb26 : b < 26
              case neg =>
                have gb : decide ((b : Int) < 26) = false := decide_eq_false (by omega)
                have gbn : decide (b < 26) = false := decide_eq_false hb26
                have gbi : (26 : Int) ≤ (b : Int) := by omega
                obtain ⟨a1, ha1⟩ : ∃ a1, a1 = a + 1 := ⟨_, rfl⟩
                have HWA := Lib.hid (show IntKind.i64.wrap ((a : Int) + 1) = (a1 : Int) by rw [IntWalk.i64_in ((a : Int) + 1) (by have := HA26.out; omega)]; omega)
                have HN := Lib.hid (show cntTo th (a * 26 + b) = cntTo th (a1 * 26) by rw [show a1 * 26 = a * 26 + b by omega])
                have HMM := Lib.hid (show 27 - a1 < 27 - a ∧ a1 ≤ 26 by have := HA26.out; omega)
                rw [HN.out]
                have hwa := HWA.out
                clear hb hb26 ha1 ga gan gai ha26
                go_wp2_with fail
                exact ⟨⟨a1, rfl, rfl, Lib.hid ⟨HMM.out.2, HB.out.2.1, HB.out.2.2.1, HB.out.2.2.2⟩⟩, by simpa [intOf] using HMM.out.1⟩
              case pos =>
              have gb : decide ((b : Int) < 26) = true := decide_eq_true (by omega)
              have gbn : decide (b < 26) = true := decide_eq_true hb26
              have gbi : (b : Int) < 26 := by omega
              obtain ⟨x, hx⟩ : ∃ x, x = 97 + a := ⟨_, rfl⟩
              obtain ⟨y, hy⟩ : ∃ y, y = 97 + b := ⟨_, rfl⟩
              have HX := Lib.hid (show a < 26 ∧ b < 26 ∧ x < 256 ∧ y < 256 by have := HA26.out; omega)
              have HST := Lib.hid (show (⟨#[UInt8.ofNat x, UInt8.ofNat y]⟩ : ByteArray) = two (a * 26 + b) by rw [two_of a b (by omega), hx, hy])
              have HW1 : Hid (IntKind.i64.wrap (97 + (a : Int)) = (x : Int) ∧ IntKind.i64.wrap (97 + (b : Int)) = (y : Int) ∧ IntKind.u8.wrap (x : Int) = (x : Int) ∧ IntKind.u8.wrap (y : Int) = (y : Int)) := Lib.hid ⟨by
                rw [IntWalk.i64_in (97 + (a : Int)) (by have := HX.out; omega)]; omega, by
                rw [IntWalk.i64_in (97 + (b : Int)) (by have := HX.out; omega)]; omega, IntWalk.u8_in _ (by have := HX.out; omega), IntWalk.u8_in _ (by have := HX.out; omega)⟩
              have hcv := run_two x y (by have := HX.out; omega) (by have := HX.out; omega) wr
              obtain ⟨S, hS⟩ : ∃ S, S = two (a * 26 + b) := ⟨_, rfl⟩
              rw [HST.out, ← hS] at hcv
              have HSS := Lib.hid hS
              have HJ6 := Lib.hid (show a * 26 + b < 676 by omega)
              obtain ⟨b1, hb1⟩ : ∃ b1, b1 = b + 1 := ⟨_, rfl⟩
              have HWB := Lib.hid (show IntKind.i64.wrap ((b : Int) + 1) = (b1 : Int) by rw [IntWalk.i64_in ((b : Int) + 1) (by have := HX.out; omega)]; omega)
              have HMB := Lib.hid (show 27 - b1 < 27 - b ∧ b1 ≤ 26 by omega)
              have HCN := Lib.hid (show cntTo th (a * 26 + b1) = cntTo th (a * 26 + b) + if 0 < th (a * 26 + b) then 1 else 0 by rw [hb1]; rfl)
              have HCL := Lib.hid (show cntTo th (a * 26 + b) ≤ 676 from Nat.le_trans (cntTo_le th _) (by omega))
              obtain ⟨w1, w2, w3', w4'⟩ := HW1.out
              clear hx hy hS hb hb26 hb1 ha26
              go_upto_region 32 with fail
              have hbz : Below wr.heap.size wr (wr.alloc (.cells #[.int .u8 (x : Int), .int .u8 (y : Int)] 5)) := (Below.refl _ _).alloc (Nat.le_refl _) _
              obtain ⟨W2, hW2⟩ : ∃ W2, W2 = wr.alloc (.cells #[.int .u8 (x : Int), .int .u8 (y : Int)] 5) := ⟨_, rfl⟩
              rw [← hW2] at hbz ⊢
              have hbz1 : Below wr.heap.size wr W2.drew := hbz.drew
              have HBZ := Lib.hid hbz1
              have HT2 := Lib.hid (K.below HB.out.2.1 hbz1)
              have HTAB2 := Lib.hid (HB.out.2.2.1.below hbz1)
              have HB2 := Lib.hid (HB.out.2.2.2.trans (hbz1.mono HB.out.2.2.2.size))
              have HVE : Hid (Calls Try.prog 24 #[.pointer p, .string S] W2.drew (Answers (.int .i64 (th (a * 26 + b) : Int)) W2.drew)) := Lib.hid (by
                have h := K.version_is S HT2.out (by rw [HSS.out, two_size]; decide)
                rw [HSS.out, (HJ.out.many.1 _ HJ6.out).1, ← HSS.out] at h
                exact h)
              clear hW2 hbz hbz1 hcv
              have t0 : W2.drew.cell? ⟨w.heap.size, a * 26 + b, none⟩ = some (.int .i64 (th (a * 26 + b) : Int)) := HTAB2.out.cell HJ6.out
              go_region_held3 (fun wq => wq.cell? ⟨w.heap.size, a * 26 + b, none⟩ = some (.int .i64 (th (a * 26 + b) : Int)))
                ((first | exact t0 | assumption | exact HTAB3.out.cell HJ6.out))
                (first | (go_at_call 24; (with_reducible refine HVE.out.mono ?_); rintro e w5 ⟨rfl, hb5⟩; have HT3 := Lib.hid (K.below HT2.out hb5); have HTAB3 := Lib.hid (HTAB2.out.below hb5); have HB3 := Lib.hid (HB2.out.trans (hb5.mono HB2.out.size)); have t1 : w5.cell? ⟨w.heap.size, a * 26 + b, none⟩ = some (.int .i64 (th (a * 26 + b) : Int)) := HTAB3.out.cell HJ6.out; clear hb5 t0))
              all_goals
                generalize cntTo th (a * 26 + b) = cn at HCN HCL ⊢
                have hwb := HWB.out
                by_cases hp : 0 < th (a * 26 + b)
                · have gp1 : decide ((th (a * 26 + b) : Int) > 0) = true := decide_eq_true (by omega)
                  have gp1n : decide (0 < th (a * 26 + b)) = true := decide_eq_true hp
                  have gp1i : (0 : Int) < (th (a * 26 + b) : Int) := by omega
                  have hc1 := HCN.out
                  rw [if_pos hp] at hc1
                  have HC1 := Lib.hid hc1
                  have hwn : IntKind.i64.wrap ((cn : Int) + 1) = ((cn + 1 : Nat) : Int) := by rw [IntWalk.i64_in ((cn : Int) + 1) (by have := HCL.out; omega)]; omega
                  obtain ⟨c1, hc1e⟩ : ∃ c1, c1 = cn + 1 := ⟨_, rfl⟩
                  rw [← hc1e] at hwn HC1
                  clear hp hc1 hc1e
                  go_wp2_with fail
                  exact ⟨⟨b1, rfl, by rw [HC1.out], Lib.hid ⟨HMB.out.2, HT3.out, HTAB3.out, HB3.out⟩⟩, by simpa [intOf] using HMB.out.1⟩
                · have gp1 : decide ((th (a * 26 + b) : Int) > 0) = false := decide_eq_false (by omega)
                  have gp1n : decide (0 < th (a * 26 + b)) = false := decide_eq_false hp
                  have gp1i : (th (a * 26 + b) : Int) ≤ 0 := by omega
                  have hc1 := HCN.out
                  rw [if_neg hp, Nat.add_zero] at hc1
                  have HC1 := Lib.hid hc1
                  clear hp hc1
                  go_wp2_with fail
                  exact ⟨⟨b1, rfl, by rw [HC1.out], Lib.hid ⟨HMB.out.2, HT3.out, HTAB3.out, HB3.out⟩⟩, by simpa [intOf] using HMB.out.1⟩
        case pos =>
        have gj : decide ((j : Int) < (gs.length : Int)) = true := decide_eq_true (by omega)
        have gjn : decide (j < gs.length) = true := decide_eq_true hj
        have gji : (j : Int) < (gs.length : Int) := by omega
        by_cases hs : j < 60
        case neg =>
          have gl : decide ((j : Int) < 60) = false := decide_eq_false (by omega)
          have gln : decide (j < 60) = false := decide_eq_false hs
          have gli : (60 : Int) ≤ (j : Int) := by omega
          clear hj hs hj60
          go_wp2_with fail
          go_loopw [17, 18, 19, 20] (fun nv av _ _ wz => ∃ a : Nat, av = .int .i64 (a : Int) ∧ nv = .int .i64 (cntTo th (a * 26) : Int) ∧ Hid (a ≤ 26 ∧ T wz p fs ∧ TabAt wz w.heap.size th ∧ Below w.heap.size w wz)) (fun _ av _ _ _ => 27 - (intOf av).toNat)
          case atStart => exact ⟨0, rfl, rfl, Lib.hid ⟨by omega, HJ.out.tree, HJ.out.tab, HJ.out.below⟩⟩
          case round =>
            obtain ⟨a, rfl, rfl, HA⟩ := hrel
            have ha := HA.out.1
            by_cases ha26 : a < 26
            case neg =>
              have ga : decide ((a : Int) < 26) = false := decide_eq_false (by omega)
              have gan : decide (a < 26) = false := decide_eq_false ha26
              have gai : (26 : Int) ≤ (a : Int) := by omega
              have HLN := Lib.hid (show cntTo th (a * 26) = fs.length by rw [show a * 26 = 676 by omega]; exact HJ.out.many.2.symm)
              rw [HLN.out]
              clear ha ha26
              go_wp2_with fail
              go_at_call 7
              (with_reducible refine (HAL.out _).mono ?_)
              rintro e w5 ⟨rfl, hb5⟩
              have HT5 := Lib.hid (K.below HA.out.2.1 hb5)
              have HB5 := Lib.hid (HA.out.2.2.2.trans (hb5.mono HA.out.2.2.2.size))
              have HLE := Lib.hid (K.len_is HT5.out)
              clear hb5
              go_wp2_with fail
              go_at_call 20
              (with_reducible refine HLE.out.mono ?_)
              rintro e w6 ⟨rfl, hb6⟩
              have HT6 := Lib.hid (K.below HT5.out hb6)
              have HB6 := Lib.hid (HB5.out.trans (hb6.mono HB5.out.size))
              have HFI := Lib.hid (K.files_is HT6.out)
              clear hb6
              go_wp2_with fail
              go_at_call 18
              (with_reducible refine HFI.out.mono ?_)
              rintro e w7 ⟨fv, rfl, hfv, hb7⟩
              obtain ⟨LA, lc, rfl, _⟩ := hfv.form
              have HB7 := Lib.hid (HB6.out.trans (hb7.mono HB6.out.size))
              clear hfv hb7
              go_wp2_with fail
              go_ret
              exact ⟨by simp, HB7.out⟩
            case pos =>
            have ga : decide ((a : Int) < 26) = true := decide_eq_true (by omega)
            have gan : decide (a < 26) = true := decide_eq_true ha26
            have gai : (a : Int) < 26 := by omega
            have HA26 := Lib.hid ha26
            clear ha
            go_wp2_with fail
            go_loopw [17, 19, 20] (fun nv bv _ wz => ∃ b : Nat, bv = .int .i64 (b : Int) ∧ nv = .int .i64 (cntTo th (a * 26 + b) : Int) ∧ Hid (b ≤ 26 ∧ T wz p fs ∧ TabAt wz w.heap.size th ∧ Below w.heap.size w wz)) (fun _ bv _ _ => 27 - (intOf bv).toNat)
            case atStart => exact ⟨0, rfl, rfl, Lib.hid ⟨by omega, HA.out.2.1, HA.out.2.2.1, HA.out.2.2.2⟩⟩
            case round =>
              obtain ⟨b, rfl, rfl, HB⟩ := hrel
              have hb := HB.out.1
              by_cases hb26 : b < 26
              case neg =>
                have gb : decide ((b : Int) < 26) = false := decide_eq_false (by omega)
                have gbn : decide (b < 26) = false := decide_eq_false hb26
                have gbi : (26 : Int) ≤ (b : Int) := by omega
                obtain ⟨a1, ha1⟩ : ∃ a1, a1 = a + 1 := ⟨_, rfl⟩
                have HWA := Lib.hid (show IntKind.i64.wrap ((a : Int) + 1) = (a1 : Int) by rw [IntWalk.i64_in ((a : Int) + 1) (by have := HA26.out; omega)]; omega)
                have HN := Lib.hid (show cntTo th (a * 26 + b) = cntTo th (a1 * 26) by rw [show a1 * 26 = a * 26 + b by omega])
                have HMM := Lib.hid (show 27 - a1 < 27 - a ∧ a1 ≤ 26 by have := HA26.out; omega)
                rw [HN.out]
                have hwa := HWA.out
                clear hb hb26 ha1 ga gan gai ha26
                go_wp2_with fail
                exact ⟨⟨a1, rfl, rfl, Lib.hid ⟨HMM.out.2, HB.out.2.1, HB.out.2.2.1, HB.out.2.2.2⟩⟩, by simpa [intOf] using HMM.out.1⟩
              case pos =>
              have gb : decide ((b : Int) < 26) = true := decide_eq_true (by omega)
              have gbn : decide (b < 26) = true := decide_eq_true hb26
              have gbi : (b : Int) < 26 := by omega
              obtain ⟨x, hx⟩ : ∃ x, x = 97 + a := ⟨_, rfl⟩
              obtain ⟨y, hy⟩ : ∃ y, y = 97 + b := ⟨_, rfl⟩
              have HX := Lib.hid (show a < 26 ∧ b < 26 ∧ x < 256 ∧ y < 256 by have := HA26.out; omega)
              have HST := Lib.hid (show (⟨#[UInt8.ofNat x, UInt8.ofNat y]⟩ : ByteArray) = two (a * 26 + b) by rw [two_of a b (by omega), hx, hy])
              have HW1 : Hid (IntKind.i64.wrap (97 + (a : Int)) = (x : Int) ∧ IntKind.i64.wrap (97 + (b : Int)) = (y : Int) ∧ IntKind.u8.wrap (x : Int) = (x : Int) ∧ IntKind.u8.wrap (y : Int) = (y : Int)) := Lib.hid ⟨by
                rw [IntWalk.i64_in (97 + (a : Int)) (by have := HX.out; omega)]; omega, by
                rw [IntWalk.i64_in (97 + (b : Int)) (by have := HX.out; omega)]; omega, IntWalk.u8_in _ (by have := HX.out; omega), IntWalk.u8_in _ (by have := HX.out; omega)⟩
              have hcv := run_two x y (by have := HX.out; omega) (by have := HX.out; omega) wr
              obtain ⟨S, hS⟩ : ∃ S, S = two (a * 26 + b) := ⟨_, rfl⟩
              rw [HST.out, ← hS] at hcv
              have HSS := Lib.hid hS
              have HJ6 := Lib.hid (show a * 26 + b < 676 by omega)
              obtain ⟨b1, hb1⟩ : ∃ b1, b1 = b + 1 := ⟨_, rfl⟩
              have HWB := Lib.hid (show IntKind.i64.wrap ((b : Int) + 1) = (b1 : Int) by rw [IntWalk.i64_in ((b : Int) + 1) (by have := HX.out; omega)]; omega)
              have HMB := Lib.hid (show 27 - b1 < 27 - b ∧ b1 ≤ 26 by omega)
              have HCN := Lib.hid (show cntTo th (a * 26 + b1) = cntTo th (a * 26 + b) + if 0 < th (a * 26 + b) then 1 else 0 by rw [hb1]; rfl)
              have HCL := Lib.hid (show cntTo th (a * 26 + b) ≤ 676 from Nat.le_trans (cntTo_le th _) (by omega))
              obtain ⟨w1, w2, w3', w4'⟩ := HW1.out
              clear hx hy hS hb hb26 hb1 ha26
              go_upto_region 32 with fail
              have hbz : Below wr.heap.size wr (wr.alloc (.cells #[.int .u8 (x : Int), .int .u8 (y : Int)] 5)) := (Below.refl _ _).alloc (Nat.le_refl _) _
              obtain ⟨W2, hW2⟩ : ∃ W2, W2 = wr.alloc (.cells #[.int .u8 (x : Int), .int .u8 (y : Int)] 5) := ⟨_, rfl⟩
              rw [← hW2] at hbz ⊢
              have hbz1 : Below wr.heap.size wr W2.drew := hbz.drew
              have HBZ := Lib.hid hbz1
              have HT2 := Lib.hid (K.below HB.out.2.1 hbz1)
              have HTAB2 := Lib.hid (HB.out.2.2.1.below hbz1)
              have HB2 := Lib.hid (HB.out.2.2.2.trans (hbz1.mono HB.out.2.2.2.size))
              have HVE : Hid (Calls Try.prog 24 #[.pointer p, .string S] W2.drew (Answers (.int .i64 (th (a * 26 + b) : Int)) W2.drew)) := Lib.hid (by
                have h := K.version_is S HT2.out (by rw [HSS.out, two_size]; decide)
                rw [HSS.out, (HJ.out.many.1 _ HJ6.out).1, ← HSS.out] at h
                exact h)
              clear hW2 hbz hbz1 hcv
              have t0 : W2.drew.cell? ⟨w.heap.size, a * 26 + b, none⟩ = some (.int .i64 (th (a * 26 + b) : Int)) := HTAB2.out.cell HJ6.out
              go_region_held3 (fun wq => wq.cell? ⟨w.heap.size, a * 26 + b, none⟩ = some (.int .i64 (th (a * 26 + b) : Int)))
                ((first | exact t0 | assumption | exact HTAB3.out.cell HJ6.out))
                (first | (go_at_call 24; (with_reducible refine HVE.out.mono ?_); rintro e w5 ⟨rfl, hb5⟩; have HT3 := Lib.hid (K.below HT2.out hb5); have HTAB3 := Lib.hid (HTAB2.out.below hb5); have HB3 := Lib.hid (HB2.out.trans (hb5.mono HB2.out.size)); have t1 : w5.cell? ⟨w.heap.size, a * 26 + b, none⟩ = some (.int .i64 (th (a * 26 + b) : Int)) := HTAB3.out.cell HJ6.out; clear hb5 t0))
              all_goals
                generalize cntTo th (a * 26 + b) = cn at HCN HCL ⊢
                have hwb := HWB.out
                by_cases hp : 0 < th (a * 26 + b)
                · have gp1 : decide ((th (a * 26 + b) : Int) > 0) = true := decide_eq_true (by omega)
                  have gp1n : decide (0 < th (a * 26 + b)) = true := decide_eq_true hp
                  have gp1i : (0 : Int) < (th (a * 26 + b) : Int) := by omega
                  have hc1 := HCN.out
                  rw [if_pos hp] at hc1
                  have HC1 := Lib.hid hc1
                  have hwn : IntKind.i64.wrap ((cn : Int) + 1) = ((cn + 1 : Nat) : Int) := by rw [IntWalk.i64_in ((cn : Int) + 1) (by have := HCL.out; omega)]; omega
                  obtain ⟨c1, hc1e⟩ : ∃ c1, c1 = cn + 1 := ⟨_, rfl⟩
                  rw [← hc1e] at hwn HC1
                  clear hp hc1 hc1e
                  go_wp2_with fail
                  exact ⟨⟨b1, rfl, by rw [HC1.out], Lib.hid ⟨HMB.out.2, HT3.out, HTAB3.out, HB3.out⟩⟩, by simpa [intOf] using HMB.out.1⟩
                · have gp1 : decide ((th (a * 26 + b) : Int) > 0) = false := decide_eq_false (by omega)
                  have gp1n : decide (0 < th (a * 26 + b)) = false := decide_eq_false hp
                  have gp1i : (th (a * 26 + b) : Int) ≤ 0 := by omega
                  have hc1 := HCN.out
                  rw [if_neg hp, Nat.add_zero] at hc1
                  have HC1 := Lib.hid hc1
                  clear hp hc1
                  go_wp2_with fail
                  exact ⟨⟨b1, rfl, by rw [HC1.out], Lib.hid ⟨HMB.out.2, HT3.out, HTAB3.out, HB3.out⟩⟩, by simpa [intOf] using HMB.out.1⟩
        case pos =>
        have gl : decide ((j : Int) < 60) = true := decide_eq_true (by omega)
        have gln : decide (j < 60) = true := decide_eq_true hs
        have gli : (j : Int) < 60 := by omega
        by_cases hp : 0 < ps.length
        case neg =>
          have gp : decide ((ps.length : Int) > 0) = false := decide_eq_false (by omega)
          have gpn : decide (0 < ps.length) = false := decide_eq_false hp
          have gpi : (ps.length : Int) ≤ 0 := by omega
          clear hj hs hp hj60
          go_wp2_with fail
          go_loopw [17, 18, 19, 20] (fun nv av _ _ wz => ∃ a : Nat, av = .int .i64 (a : Int) ∧ nv = .int .i64 (cntTo th (a * 26) : Int) ∧ Hid (a ≤ 26 ∧ T wz p fs ∧ TabAt wz w.heap.size th ∧ Below w.heap.size w wz)) (fun _ av _ _ _ => 27 - (intOf av).toNat)
          case atStart => exact ⟨0, rfl, rfl, Lib.hid ⟨by omega, HJ.out.tree, HJ.out.tab, HJ.out.below⟩⟩
          case round =>
            obtain ⟨a, rfl, rfl, HA⟩ := hrel
            have ha := HA.out.1
            by_cases ha26 : a < 26
            case neg =>
              have ga : decide ((a : Int) < 26) = false := decide_eq_false (by omega)
              have gan : decide (a < 26) = false := decide_eq_false ha26
              have gai : (26 : Int) ≤ (a : Int) := by omega
              have HLN := Lib.hid (show cntTo th (a * 26) = fs.length by rw [show a * 26 = 676 by omega]; exact HJ.out.many.2.symm)
              rw [HLN.out]
              clear ha ha26
              go_wp2_with fail
              go_at_call 7
              (with_reducible refine (HAL.out _).mono ?_)
              rintro e w5 ⟨rfl, hb5⟩
              have HT5 := Lib.hid (K.below HA.out.2.1 hb5)
              have HB5 := Lib.hid (HA.out.2.2.2.trans (hb5.mono HA.out.2.2.2.size))
              have HLE := Lib.hid (K.len_is HT5.out)
              clear hb5
              go_wp2_with fail
              go_at_call 20
              (with_reducible refine HLE.out.mono ?_)
              rintro e w6 ⟨rfl, hb6⟩
              have HT6 := Lib.hid (K.below HT5.out hb6)
              have HB6 := Lib.hid (HB5.out.trans (hb6.mono HB5.out.size))
              have HFI := Lib.hid (K.files_is HT6.out)
              clear hb6
              go_wp2_with fail
              go_at_call 18
              (with_reducible refine HFI.out.mono ?_)
              rintro e w7 ⟨fv, rfl, hfv, hb7⟩
              obtain ⟨LA, lc, rfl, _⟩ := hfv.form
              have HB7 := Lib.hid (HB6.out.trans (hb7.mono HB6.out.size))
              clear hfv hb7
              go_wp2_with fail
              go_ret
              exact ⟨by simp, HB7.out⟩
            case pos =>
            have ga : decide ((a : Int) < 26) = true := decide_eq_true (by omega)
            have gan : decide (a < 26) = true := decide_eq_true ha26
            have gai : (a : Int) < 26 := by omega
            have HA26 := Lib.hid ha26
            clear ha
            go_wp2_with fail
            go_loopw [17, 19, 20] (fun nv bv _ wz => ∃ b : Nat, bv = .int .i64 (b : Int) ∧ nv = .int .i64 (cntTo th (a * 26 + b) : Int) ∧ Hid (b ≤ 26 ∧ T wz p fs ∧ TabAt wz w.heap.size th ∧ Below w.heap.size w wz)) (fun _ bv _ _ => 27 - (intOf bv).toNat)
            case atStart => exact ⟨0, rfl, rfl, Lib.hid ⟨by omega, HA.out.2.1, HA.out.2.2.1, HA.out.2.2.2⟩⟩
            case round =>
              obtain ⟨b, rfl, rfl, HB⟩ := hrel
              have hb := HB.out.1
              by_cases hb26 : b < 26
              case neg =>
                have gb : decide ((b : Int) < 26) = false := decide_eq_false (by omega)
                have gbn : decide (b < 26) = false := decide_eq_false hb26
                have gbi : (26 : Int) ≤ (b : Int) := by omega
                obtain ⟨a1, ha1⟩ : ∃ a1, a1 = a + 1 := ⟨_, rfl⟩
                have HWA := Lib.hid (show IntKind.i64.wrap ((a : Int) + 1) = (a1 : Int) by rw [IntWalk.i64_in ((a : Int) + 1) (by have := HA26.out; omega)]; omega)
                have HN := Lib.hid (show cntTo th (a * 26 + b) = cntTo th (a1 * 26) by rw [show a1 * 26 = a * 26 + b by omega])
                have HMM := Lib.hid (show 27 - a1 < 27 - a ∧ a1 ≤ 26 by have := HA26.out; omega)
                rw [HN.out]
                have hwa := HWA.out
                clear hb hb26 ha1 ga gan gai ha26
                go_wp2_with fail
                exact ⟨⟨a1, rfl, rfl, Lib.hid ⟨HMM.out.2, HB.out.2.1, HB.out.2.2.1, HB.out.2.2.2⟩⟩, by simpa [intOf] using HMM.out.1⟩
              case pos =>
              have gb : decide ((b : Int) < 26) = true := decide_eq_true (by omega)
              have gbn : decide (b < 26) = true := decide_eq_true hb26
              have gbi : (b : Int) < 26 := by omega
              obtain ⟨x, hx⟩ : ∃ x, x = 97 + a := ⟨_, rfl⟩
              obtain ⟨y, hy⟩ : ∃ y, y = 97 + b := ⟨_, rfl⟩
              have HX := Lib.hid (show a < 26 ∧ b < 26 ∧ x < 256 ∧ y < 256 by have := HA26.out; omega)
              have HST := Lib.hid (show (⟨#[UInt8.ofNat x, UInt8.ofNat y]⟩ : ByteArray) = two (a * 26 + b) by rw [two_of a b (by omega), hx, hy])
              have HW1 : Hid (IntKind.i64.wrap (97 + (a : Int)) = (x : Int) ∧ IntKind.i64.wrap (97 + (b : Int)) = (y : Int) ∧ IntKind.u8.wrap (x : Int) = (x : Int) ∧ IntKind.u8.wrap (y : Int) = (y : Int)) := Lib.hid ⟨by
                rw [IntWalk.i64_in (97 + (a : Int)) (by have := HX.out; omega)]; omega, by
                rw [IntWalk.i64_in (97 + (b : Int)) (by have := HX.out; omega)]; omega, IntWalk.u8_in _ (by have := HX.out; omega), IntWalk.u8_in _ (by have := HX.out; omega)⟩
              have hcv := run_two x y (by have := HX.out; omega) (by have := HX.out; omega) wr
              obtain ⟨S, hS⟩ : ∃ S, S = two (a * 26 + b) := ⟨_, rfl⟩
              rw [HST.out, ← hS] at hcv
              have HSS := Lib.hid hS
              have HJ6 := Lib.hid (show a * 26 + b < 676 by omega)
              obtain ⟨b1, hb1⟩ : ∃ b1, b1 = b + 1 := ⟨_, rfl⟩
              have HWB := Lib.hid (show IntKind.i64.wrap ((b : Int) + 1) = (b1 : Int) by rw [IntWalk.i64_in ((b : Int) + 1) (by have := HX.out; omega)]; omega)
              have HMB := Lib.hid (show 27 - b1 < 27 - b ∧ b1 ≤ 26 by omega)
              have HCN := Lib.hid (show cntTo th (a * 26 + b1) = cntTo th (a * 26 + b) + if 0 < th (a * 26 + b) then 1 else 0 by rw [hb1]; rfl)
              have HCL := Lib.hid (show cntTo th (a * 26 + b) ≤ 676 from Nat.le_trans (cntTo_le th _) (by omega))
              obtain ⟨w1, w2, w3', w4'⟩ := HW1.out
              clear hx hy hS hb hb26 hb1 ha26
              go_upto_region 32 with fail
              have hbz : Below wr.heap.size wr (wr.alloc (.cells #[.int .u8 (x : Int), .int .u8 (y : Int)] 5)) := (Below.refl _ _).alloc (Nat.le_refl _) _
              obtain ⟨W2, hW2⟩ : ∃ W2, W2 = wr.alloc (.cells #[.int .u8 (x : Int), .int .u8 (y : Int)] 5) := ⟨_, rfl⟩
              rw [← hW2] at hbz ⊢
              have hbz1 : Below wr.heap.size wr W2.drew := hbz.drew
              have HBZ := Lib.hid hbz1
              have HT2 := Lib.hid (K.below HB.out.2.1 hbz1)
              have HTAB2 := Lib.hid (HB.out.2.2.1.below hbz1)
              have HB2 := Lib.hid (HB.out.2.2.2.trans (hbz1.mono HB.out.2.2.2.size))
              have HVE : Hid (Calls Try.prog 24 #[.pointer p, .string S] W2.drew (Answers (.int .i64 (th (a * 26 + b) : Int)) W2.drew)) := Lib.hid (by
                have h := K.version_is S HT2.out (by rw [HSS.out, two_size]; decide)
                rw [HSS.out, (HJ.out.many.1 _ HJ6.out).1, ← HSS.out] at h
                exact h)
              clear hW2 hbz hbz1 hcv
              have t0 : W2.drew.cell? ⟨w.heap.size, a * 26 + b, none⟩ = some (.int .i64 (th (a * 26 + b) : Int)) := HTAB2.out.cell HJ6.out
              go_region_held3 (fun wq => wq.cell? ⟨w.heap.size, a * 26 + b, none⟩ = some (.int .i64 (th (a * 26 + b) : Int)))
                ((first | exact t0 | assumption | exact HTAB3.out.cell HJ6.out))
                (first | (go_at_call 24; (with_reducible refine HVE.out.mono ?_); rintro e w5 ⟨rfl, hb5⟩; have HT3 := Lib.hid (K.below HT2.out hb5); have HTAB3 := Lib.hid (HTAB2.out.below hb5); have HB3 := Lib.hid (HB2.out.trans (hb5.mono HB2.out.size)); have t1 : w5.cell? ⟨w.heap.size, a * 26 + b, none⟩ = some (.int .i64 (th (a * 26 + b) : Int)) := HTAB3.out.cell HJ6.out; clear hb5 t0))
              all_goals
                generalize cntTo th (a * 26 + b) = cn at HCN HCL ⊢
                have hwb := HWB.out
                by_cases hp : 0 < th (a * 26 + b)
                · have gp1 : decide ((th (a * 26 + b) : Int) > 0) = true := decide_eq_true (by omega)
                  have gp1n : decide (0 < th (a * 26 + b)) = true := decide_eq_true hp
                  have gp1i : (0 : Int) < (th (a * 26 + b) : Int) := by omega
                  have hc1 := HCN.out
                  rw [if_pos hp] at hc1
                  have HC1 := Lib.hid hc1
                  have hwn : IntKind.i64.wrap ((cn : Int) + 1) = ((cn + 1 : Nat) : Int) := by rw [IntWalk.i64_in ((cn : Int) + 1) (by have := HCL.out; omega)]; omega
                  obtain ⟨c1, hc1e⟩ : ∃ c1, c1 = cn + 1 := ⟨_, rfl⟩
                  rw [← hc1e] at hwn HC1
                  clear hp hc1 hc1e
                  go_wp2_with fail
                  exact ⟨⟨b1, rfl, by rw [HC1.out], Lib.hid ⟨HMB.out.2, HT3.out, HTAB3.out, HB3.out⟩⟩, by simpa [intOf] using HMB.out.1⟩
                · have gp1 : decide ((th (a * 26 + b) : Int) > 0) = false := decide_eq_false (by omega)
                  have gp1n : decide (0 < th (a * 26 + b)) = false := decide_eq_false hp
                  have gp1i : (th (a * 26 + b) : Int) ≤ 0 := by omega
                  have hc1 := HCN.out
                  rw [if_neg hp, Nat.add_zero] at hc1
                  have HC1 := Lib.hid hc1
                  clear hp hc1
                  go_wp2_with fail
                  exact ⟨⟨b1, rfl, by rw [HC1.out], Lib.hid ⟨HMB.out.2, HT3.out, HTAB3.out, HB3.out⟩⟩, by simpa [intOf] using HMB.out.1⟩
        case pos =>
        have gp : decide ((ps.length : Int) > 0) = true := decide_eq_true (by omega)
        have gpn : decide (0 < ps.length) = true := decide_eq_true hp
        have gpi : (0 : Int) < (ps.length : Int) := by omega
        obtain ⟨n, hn⟩ : ∃ n, gs[j]? = some n := ⟨_, List.getElem?_eq_getElem hj⟩
        obtain ⟨hnw, gg, go, hGA, kg⟩ := HGS.out wr HJ.out.below j n hn
        subst hGA
        obtain ⟨M, hM⟩ : ∃ M, M = min ps.length 60 := ⟨_, rfl⟩
        have hMp : 0 < M := by omega
        have hMl : M ≤ ps.length := by omega
        have hmin : (if (60 : Int) < (ps.length : Int) then (60 : Int) else (ps.length : Int)) = (M : Int) := by split <;> omega
        have hmin2 : (if 60 < ps.length then (60 : Int) else (ps.length : Int)) = (M : Int) := by split <;> omega
        have HPK := Lib.hid fun (W : World) => pick_any n M W hnw hMp (by omega)
        have hkl := pickN_lt (n := n) hMp
        obtain ⟨k, hk⟩ : ∃ k, k = pickN n M := ⟨_, rfl⟩
        rw [← hk] at HPK hkl
        have hkp : k < ps.length := by omega
        have hkpi : (k : Int) < (ps.length : Int) := by omega
        obtain ⟨q, hq⟩ : ∃ q, ps[k]? = some q := ⟨_, List.getElem?_eq_getElem hkp⟩
        obtain ⟨g, o, hPA, k0, k1⟩ := HPS.out wr HJ.out.below k q hq
        subst hPA
        have HI60 := Lib.hid hs
        clear hq hk hn hM hMl hnw hj hs hp hkl hj60
        obtain ⟨a, ha⟩ : ∃ a, a = q.1.toNat % 26 := ⟨_, rfl⟩
        obtain ⟨c, hc⟩ : ∃ c, c = q.2.toNat % 26 := ⟨_, rfl⟩
        obtain ⟨x, hx⟩ : ∃ x, x = 97 + a := ⟨_, rfl⟩
        obtain ⟨y, hy⟩ : ∃ y, y = 97 + c := ⟨_, rfl⟩
        have HA26 := Lib.hid (show a < 26 ∧ c < 26 ∧ x < 256 ∧ y < 256 by omega)
        have HST := Lib.hid (show (⟨#[UInt8.ofNat x, UInt8.ofNat y]⟩ : ByteArray) = two (a * 26 + c) by rw [two_of a c (by omega), hx, hy])
        have hra : (q.1.toNat : Int).tmod 26 = (a : Int) := by rw [ha]; rfl
        have hrc : (q.2.toNat : Int).tmod 26 = (c : Int) := by rw [hc]; rfl
        have hwx : IntKind.u8.wrap (97 + (a : Int)) = (x : Int) := by rw [IntWalk.u8_in (97 + (a : Int)) (by have := HA26.out; omega)]; omega
        have hwy : IntKind.u8.wrap (97 + (c : Int)) = (y : Int) := by rw [IntWalk.u8_in (97 + (c : Int)) (by have := HA26.out; omega)]; omega
        have hwa : IntKind.u8.wrap (a : Int) = (a : Int) := IntWalk.u8_in _ (by have := HA26.out; omega)
        have hwc : IntKind.u8.wrap (c : Int) = (c : Int) := IntWalk.u8_in _ (by have := HA26.out; omega)
        have HRT := Lib.hid fun (W : World) => run_two x y (by have := HA26.out; omega) (by have := HA26.out; omega) W
        clear ha hc hx hy
        go_wp2_with fail
        go_at_call 8
        (with_reducible refine (HPK.out _).mono ?_)
        rintro e w0 ⟨rfl, hw0⟩
        subst hw0
        go_upto_region 17 with fail
        have hobj := heap_alloc_new wr (.cells #[.int .u8 (q.1.toNat : Int), .int .u8 (q.2.toNat : Int)] 61)
        have hb1 : Below w.heap.size w (wr.alloc (.cells #[.int .u8 (q.1.toNat : Int), .int .u8 (q.2.toNat : Int)] 61)) := HJ.out.below.alloc HJ.out.below.size _
        have hbn : Below wr.heap.size wr (wr.alloc (.cells #[.int .u8 (q.1.toNat : Int), .int .u8 (q.2.toNat : Int)] 61)) := (Below.refl _ _).alloc (Nat.le_refl _) _
        obtain ⟨W1, hW1⟩ : ∃ W1, W1 = wr.alloc (.cells #[.int .u8 (q.1.toNat : Int), .int .u8 (q.2.toNat : Int)] 61) := ⟨_, rfl⟩
        rw [← hW1] at hobj hb1 hbn ⊢
        have HOB := Lib.hid hobj
        have HB1 := Lib.hid hb1
        have HBN := Lib.hid hbn
        have m0 : W1.cell? ⟨wr.heap.size, 0, none⟩ = some (.int .u8 (q.1.toNat : Int)) := by simp [World.cell?, hobj]
        have m1 : W1.cell? ⟨wr.heap.size, 1, none⟩ = some (.int .u8 (q.2.toNat : Int)) := by simp [World.cell?, hobj]
        have hcv := HRT.out W1
        obtain ⟨S, hS⟩ : ∃ S, S = two (a * 26 + c) := ⟨_, rfl⟩
        rw [HST.out, ← hS] at hcv
        have HSS := Lib.hid hS
        clear hW1 hobj hb1 hbn hS
        clear kg k0 k1
        go_upto_region 18 with fail
        have hb2n : Below wr.heap.size wr (W1.alloc (.cells #[.int .u8 (x : Int), .int .u8 (y : Int)] 5)) := HBN.out.alloc HBN.out.size _
        have hb2 : Below w.heap.size w (W1.alloc (.cells #[.int .u8 (x : Int), .int .u8 (y : Int)] 5)) := HB1.out.alloc HB1.out.size _
        have hb21 : Below W1.heap.size W1 (W1.alloc (.cells #[.int .u8 (x : Int), .int .u8 (y : Int)] 5)) := (Below.refl _ _).alloc (Nat.le_refl _) _
        obtain ⟨W2, hW2⟩ : ∃ W2, W2 = W1.alloc (.cells #[.int .u8 (x : Int), .int .u8 (y : Int)] 5) := ⟨_, rfl⟩
        rw [← hW2] at hb2n hb2 hb21 ⊢
        have HJ6 := Lib.hid (show a * 26 + c < 676 by have := HA26.out; omega)
        have HT2 := Lib.hid (K.below HJ.out.tree hb2n)
        have HB2N := Lib.hid hb2n
        have HB2 := Lib.hid hb2
        have HO2 := Lib.hid ((hb21.block wr.heap.size (Array.getElem?_eq_some_iff.1 HOB.out).1).trans HOB.out)
        clear hW2 hb2 hb2n hb21 hcv m0 m1
        obtain ⟨j1, hj1⟩ : ∃ j1, j1 = j + 1 := ⟨_, rfl⟩
        have HWJ := Lib.hid (show IntKind.i64.wrap ((j : Int) + 1) = (j1 : Int) by rw [IntWalk.i64_in ((j : Int) + 1) (by have := HI60.out; omega)]; omega)
        have HMM := Lib.hid (show 61 - j1 < 61 - j ∧ j1 ≤ 60 by have := HI60.out; omega)
        have HMD := Lib.hid (HJ.out.many.drop (K.rise HJ.out.tree) HJ6.out)
        clear hj1
        by_cases hf : findF fs S = none
        case pos =>
          have HTH := Lib.hid (show th (a * 26 + c) = 0 by rw [HSS.out] at hf; exact (HJ.out.many.1 _ HJ6.out).2.1 hf)
          have HDR := Lib.hid (K.drop_no S HT2.out (by rw [HSS.out, two_size]; decide) hf)
          have HFD := Lib.hid (dropF_none hf)
          clear hf
          go_wp2_with fail
          go_at_call 12
          (with_reducible refine HDR.out.mono ?_)
          rintro e w3 ⟨p', rfl, hb3⟩
          have hT3 := K.below HT2.out hb3
          have HT3 := Lib.hid hT3
          have HB3 := Lib.hid (HB2.out.trans (hb3.mono HB2.out.size))
          have ho3 := (hb3.block wr.heap.size (Array.getElem?_eq_some_iff.1 HO2.out).1).trans HO2.out
          have htab := HJ.out.tab.below (HB2N.out.trans (hb3.mono HB2N.out.size))
          have HTAB := Lib.hid htab
          have m0 : w3.cell? ⟨wr.heap.size, 0, none⟩ = some (.int .u8 (q.1.toNat : Int)) := by simp [World.cell?, ho3]
          have m1 : w3.cell? ⟨wr.heap.size, 1, none⟩ = some (.int .u8 (q.2.toNat : Int)) := by simp [World.cell?, ho3]
          clear hT3 hb3 ho3 htab
          have ht0 : w3.cell? ⟨w.heap.size, a * 26 + c, none⟩ = some (.int .i64 (th (a * 26 + c) : Int)) := HTAB.out.cell HJ6.out
          have hf0 : w3.frozen? ⟨w.heap.size, a * 26 + c, none⟩ = false := frozen_tab HTAB.out
          have hbb : wr.heap.size ≠ w.heap.size := by have h1 := (Array.getElem?_eq_some_iff.1 HJ.out.tab).1; omega
          have ha26 : (a : Int) < 26 := by have := HA26.out; omega
          have hc26 : (c : Int) < 26 := by have := HA26.out; omega
          have ha26n : a < 26 := HA26.out.1
          have hc26n : c < 26 := HA26.out.2.1
          have hth := HTH.out
          rw [hth] at ht0
          clear hth
          go_upto_region 19 with fail
          go_quiet (fail)
          go_wp2_with fail
          generalize hw4 : w3.drewN _ = w4
          have hb34 : Below w3.heap.size w3 w4 := by rw [← hw4]; exact ⟨rfl, rfl, rfl, Nat.le_refl _, fun _ _ => rfl⟩
          have HT4 := Lib.hid (K.below HT3.out hb34)
          have HTAB4 := Lib.hid (HTAB.out.below hb34)
          have HB4 := Lib.hid (HB3.out.trans (hb34.mono HB3.out.size))
          have p0 : w4.cell? ⟨wr.heap.size, 0, none⟩ = some (.int .u8 (q.1.toNat : Int)) := by rw [← hw4]; exact m0
          have p1 : w4.cell? ⟨wr.heap.size, 1, none⟩ = some (.int .u8 (q.2.toNat : Int)) := by rw [← hw4]; exact m1
          have HNX := Lib.hid (show MJ R T w (w4.setCell ⟨w.heap.size, a * 26 + c, none⟩ (.int .i64 ((0 : Nat) : Int))).drew p fs (setTh th (a * 26 + c) 0) 60 from ⟨KO HT4.out HTAB4.out.int (off_set _ _ _ _), (by have h := HMD.out; rw [← HSS.out, HFD.out] at h; exact h), HJ.out.few, HTAB4.out.set HJ6.out, (HB4.out.setCell (Nat.le_refl _) _).drew⟩)
          have hwj := HWJ.out
          clear hw4 hb34 m0 m1 ht0 hf0 gl gln gli
          have ht0 : w4.cell? ⟨w.heap.size, a * 26 + c, none⟩ = some (.int .i64 (th (a * 26 + c) : Int)) := HTAB4.out.cell HJ6.out
          have hf0 : w4.frozen? ⟨w.heap.size, a * 26 + c, none⟩ = false := frozen_tab HTAB4.out
          go_region_held3 (fun wz => wz.cell? ⟨wr.heap.size, 0, none⟩ = some (.int .u8 (q.1.toNat : Int)) ∧ wz.cell? ⟨wr.heap.size, 1, none⟩ = some (.int .u8 (q.2.toNat : Int)))
            ((first | exact ⟨p0, p1⟩ | assumption | exact ⟨(cell_set_ne hbb).trans p0, (cell_set_ne hbb).trans p1⟩ | exact ⟨(cell_set_ned hbb).trans p0, (cell_set_ned hbb).trans p1⟩))
            (first | fail)
          go_wp2_with fail
          exact ⟨⟨p, j1, _, _, rfl, rfl, HNX, HMM.out.2⟩, by simpa [intOf] using HMM.out.1⟩
        case neg =>
          have HTH := Lib.hid (show 0 < th (a * 26 + c) by rw [HSS.out] at hf; exact Nat.pos_of_ne_zero fun e => hf ((HJ.out.many.1 _ HJ6.out).2.2 e))
          have HDR := Lib.hid (K.drop_ok S HT2.out hf)
          clear hf
          go_wp2_with fail
          go_at_call 12
          (with_reducible refine HDR.out.mono ?_)
          rintro e w3 ⟨p', rfl, hT3, hb3⟩
          have HT3 := Lib.hid hT3
          have HB3 := Lib.hid (HB2.out.trans (hb3.mono HB2.out.size))
          have ho3 := (hb3.block wr.heap.size (Array.getElem?_eq_some_iff.1 HO2.out).1).trans HO2.out
          have htab := HJ.out.tab.below (HB2N.out.trans (hb3.mono HB2N.out.size))
          have HTAB := Lib.hid htab
          have m0 : w3.cell? ⟨wr.heap.size, 0, none⟩ = some (.int .u8 (q.1.toNat : Int)) := by simp [World.cell?, ho3]
          have m1 : w3.cell? ⟨wr.heap.size, 1, none⟩ = some (.int .u8 (q.2.toNat : Int)) := by simp [World.cell?, ho3]
          clear hT3 hb3 ho3 htab
          have ht0 : w3.cell? ⟨w.heap.size, a * 26 + c, none⟩ = some (.int .i64 (th (a * 26 + c) : Int)) := HTAB.out.cell HJ6.out
          have hf0 : w3.frozen? ⟨w.heap.size, a * 26 + c, none⟩ = false := frozen_tab HTAB.out
          have hbb : wr.heap.size ≠ w.heap.size := by have h1 := (Array.getElem?_eq_some_iff.1 HJ.out.tab).1; omega
          have ha26 : (a : Int) < 26 := by have := HA26.out; omega
          have hc26 : (c : Int) < 26 := by have := HA26.out; omega
          have ha26n : a < 26 := HA26.out.1
          have hc26n : c < 26 := HA26.out.2.1
          have hv1 : decide ((th (a * 26 + c) : Int) > 0) = true := decide_eq_true (by have := HTH.out; omega)
          have hv1n : decide (0 < th (a * 26 + c)) = true := decide_eq_true HTH.out
          have hv1i : (0 : Int) < (th (a * 26 + c) : Int) := by have := HTH.out; omega
          go_upto_region 19 with fail
          go_quiet (fail)
          go_wp2_with fail
          generalize hw4 : w3.drewN _ = w4
          have hb34 : Below w3.heap.size w3 w4 := by rw [← hw4]; exact ⟨rfl, rfl, rfl, Nat.le_refl _, fun _ _ => rfl⟩
          have HT4 := Lib.hid ((HSS.out ▸ K.below HT3.out hb34 : T w4 p' (dropF fs (two (a * 26 + c)))))
          have HTAB4 := Lib.hid (HTAB.out.below hb34)
          have HB4 := Lib.hid (HB3.out.trans (hb34.mono HB3.out.size))
          have p0 : w4.cell? ⟨wr.heap.size, 0, none⟩ = some (.int .u8 (q.1.toNat : Int)) := by rw [← hw4]; exact m0
          have p1 : w4.cell? ⟨wr.heap.size, 1, none⟩ = some (.int .u8 (q.2.toNat : Int)) := by rw [← hw4]; exact m1
          have HNX := Lib.hid (show MJ R T w (w4.setCell ⟨w.heap.size, a * 26 + c, none⟩ (.int .i64 ((0 : Nat) : Int))).drew p' (dropF fs (two (a * 26 + c))) (setTh th (a * 26 + c) 0) 60 from ⟨KO HT4.out HTAB4.out.int (off_set _ _ _ _), HMD.out, Nat.le_trans (dropF_length_le fs _) HJ.out.few, HTAB4.out.set HJ6.out, (HB4.out.setCell (Nat.le_refl _) _).drew⟩)
          have hwj := HWJ.out
          clear hw4 hb34 m0 m1 ht0 hf0 gl gln gli hv1 hv1n hv1i
          have ht0 : w4.cell? ⟨w.heap.size, a * 26 + c, none⟩ = some (.int .i64 (th (a * 26 + c) : Int)) := HTAB4.out.cell HJ6.out
          have hf0 : w4.frozen? ⟨w.heap.size, a * 26 + c, none⟩ = false := frozen_tab HTAB4.out
          go_region_held3 (fun wz => wz.cell? ⟨wr.heap.size, 0, none⟩ = some (.int .u8 (q.1.toNat : Int)) ∧ wz.cell? ⟨wr.heap.size, 1, none⟩ = some (.int .u8 (q.2.toNat : Int)))
            ((first | exact ⟨p0, p1⟩ | assumption | exact ⟨(cell_set_ne hbb).trans p0, (cell_set_ne hbb).trans p1⟩ | exact ⟨(cell_set_ned hbb).trans p0, (cell_set_ned hbb).trans p1⟩))
            (first | fail)
          go_wp2_with fail
          exact ⟨⟨p', j1, _, _, rfl, rfl, HNX, HMM.out.2⟩, by simpa [intOf] using HMM.out.1⟩
    case pos =>
    have gl : decide ((i : Int) < 60) = true := decide_eq_true (by omega)
    have gln : decide (i < 60) = true := decide_eq_true hs
    have gli : (i : Int) < 60 := by omega
    obtain ⟨q, hq⟩ : ∃ q, ps[i]? = some q := ⟨_, List.getElem?_eq_getElem hi⟩
    obtain ⟨g, o, hPA, k0, k1⟩ := HPS.out wr HJ.out.1.below i q hq
    subst hPA
    clear hq
    obtain ⟨a, ha⟩ : ∃ a, a = q.1.toNat % 26 := ⟨_, rfl⟩
    obtain ⟨c, hc⟩ : ∃ c, c = q.2.toNat % 26 := ⟨_, rfl⟩
    obtain ⟨x, hx⟩ : ∃ x, x = 97 + a := ⟨_, rfl⟩
    obtain ⟨y, hy⟩ : ∃ y, y = 97 + c := ⟨_, rfl⟩
    have HA26 := Lib.hid (show a < 26 ∧ c < 26 ∧ x < 256 ∧ y < 256 by omega)
    have HST := Lib.hid (show (⟨#[UInt8.ofNat x, UInt8.ofNat y]⟩ : ByteArray) = two (a * 26 + c) by rw [two_of a c (by omega), hx, hy])
    have hra : (q.1.toNat : Int).tmod 26 = (a : Int) := by rw [ha]; rfl
    have hrc : (q.2.toNat : Int).tmod 26 = (c : Int) := by rw [hc]; rfl
    have hwx : IntKind.u8.wrap (97 + (a : Int)) = (x : Int) := by rw [IntWalk.u8_in (97 + (a : Int)) (by have := HA26.out; omega)]; omega
    have hwy : IntKind.u8.wrap (97 + (c : Int)) = (y : Int) := by rw [IntWalk.u8_in (97 + (c : Int)) (by have := HA26.out; omega)]; omega
    have hwa : IntKind.u8.wrap (a : Int) = (a : Int) := IntWalk.u8_in _ (by have := HA26.out; omega)
    have hwc : IntKind.u8.wrap (c : Int) = (c : Int) := IntWalk.u8_in _ (by have := HA26.out; omega)
    have HRT := Lib.hid fun (W : World) => run_two x y (by have := HA26.out; omega) (by have := HA26.out; omega) W
    have HI60 := Lib.hid hs
    clear ha hc hx hy hs hi
    go_upto_region 7 with fail
    have hobj := heap_alloc_new wr (.cells #[.int .u8 (q.1.toNat : Int), .int .u8 (q.2.toNat : Int)] 61)
    have hb1 : Below w.heap.size w (wr.alloc (.cells #[.int .u8 (q.1.toNat : Int), .int .u8 (q.2.toNat : Int)] 61)) := HJ.out.1.below.alloc HJ.out.1.below.size _
    have hbn : Below wr.heap.size wr (wr.alloc (.cells #[.int .u8 (q.1.toNat : Int), .int .u8 (q.2.toNat : Int)] 61)) := (Below.refl _ _).alloc (Nat.le_refl _) _
    obtain ⟨W1, hW1⟩ : ∃ W1, W1 = wr.alloc (.cells #[.int .u8 (q.1.toNat : Int), .int .u8 (q.2.toNat : Int)] 61) := ⟨_, rfl⟩
    rw [← hW1] at hobj hb1 hbn ⊢
    have HOB := Lib.hid hobj
    have HB1 := Lib.hid hb1
    have HBN := Lib.hid hbn
    have m0 : W1.cell? ⟨wr.heap.size, 0, none⟩ = some (.int .u8 (q.1.toNat : Int)) := by simp [World.cell?, hobj]
    have m1 : W1.cell? ⟨wr.heap.size, 1, none⟩ = some (.int .u8 (q.2.toNat : Int)) := by simp [World.cell?, hobj]
    have hcv := HRT.out W1
    obtain ⟨S, hS⟩ : ∃ S, S = two (a * 26 + c) := ⟨_, rfl⟩
    rw [HST.out, ← hS] at hcv
    have HSS := Lib.hid hS
    clear hW1 hobj hb1 hbn k0 k1 hS
    go_upto_region 8 with fail
    have hb2n : Below wr.heap.size wr (W1.alloc (.cells #[.int .u8 (x : Int), .int .u8 (y : Int)] 5)) := HBN.out.alloc HBN.out.size _
    have hb2 : Below w.heap.size w (W1.alloc (.cells #[.int .u8 (x : Int), .int .u8 (y : Int)] 5)) := HB1.out.alloc HB1.out.size _
    have hb21 : Below W1.heap.size W1 (W1.alloc (.cells #[.int .u8 (x : Int), .int .u8 (y : Int)] 5)) := (Below.refl _ _).alloc (Nat.le_refl _) _
    obtain ⟨W2, hW2⟩ : ∃ W2, W2 = W1.alloc (.cells #[.int .u8 (x : Int), .int .u8 (y : Int)] 5) := ⟨_, rfl⟩
    rw [← hW2] at hb2n hb2 hb21 ⊢
    have HJA : a * 26 + c < 676 := by have := HA26.out; omega
    have HSE := Lib.hid (K.set_ok S ((i : Int) + 1) (txt []) (K.below HJ.out.1.tree hb2n) (F.nil W2) rfl (by rw [HSS.out]; exact two_right HJA) (by have := dropF_length_le fs S; have := HJ.out.1.few; have := HI60.out; omega) (wf_small HI60.out))
    have HB2N := Lib.hid hb2n
    have HB2 := Lib.hid hb2
    have HO2 := Lib.hid ((hb21.block wr.heap.size (Array.getElem?_eq_some_iff.1 HOB.out).1).trans HOB.out)
    have HJ6 := Lib.hid HJA
    clear hW2 hb2 hb2n hb21 hcv m0 m1 HJA
    go_wp2_with fail
    go_at_call 10
    (with_reducible refine HSE.out.mono ?_)
    rintro e w3 ⟨p', rfl, hT3, hb3⟩
    have HT3 := Lib.hid hT3
    have HB3 := Lib.hid (HB2.out.trans (hb3.mono HB2.out.size))
    have ho3 := (hb3.block wr.heap.size (Array.getElem?_eq_some_iff.1 HO2.out).1).trans HO2.out
    have htab := HJ.out.1.tab.below (HB2N.out.trans (hb3.mono HB2N.out.size))
    have HTAB := Lib.hid htab
    have m0 : w3.cell? ⟨wr.heap.size, 0, none⟩ = some (.int .u8 (q.1.toNat : Int)) := by simp [World.cell?, ho3]
    have m1 : w3.cell? ⟨wr.heap.size, 1, none⟩ = some (.int .u8 (q.2.toNat : Int)) := by simp [World.cell?, ho3]
    clear hT3 hb3 ho3 htab
    go_upto_region 12 with fail
    obtain ⟨i1, hi1⟩ : ∃ i1, i1 = i + 1 := ⟨_, rfl⟩
    have hwi : IntKind.i64.wrap ((i : Int) + 1) = (i1 : Int) := by rw [IntWalk.i64_in ((i : Int) + 1) (by have := HI60.out; omega)]; omega
    have HNX := Lib.hid (show MJ R T w (w3.setCell ⟨w.heap.size, a * 26 + c, none⟩ (.int .i64 (i1 : Int))).drew p' (putF fs ⟨two (a * 26 + c), (i1 : Int), txt []⟩) (setTh th (a * 26 + c) i1) i1 ∧ i1 ≤ 60 from ⟨⟨by
      have h := HT3.out
      rw [HSS.out, show (i : Int) + 1 = (i1 : Int) by omega] at h
      exact KO h HTAB.out.int (off_set _ _ _ _), HJ.out.1.many.set (K.rise HJ.out.1.tree) HJ6.out (by omega) (txt []), by
      rw [length_put (K.rise HJ.out.1.tree)]
      have := HJ.out.1.few
      split <;> omega, HTAB.out.set HJ6.out, (HB3.out.setCell (Nat.le_refl _) _).drew⟩, by have := HI60.out; omega⟩)
    have HMM := Lib.hid (show 61 - i1 < 61 - i by have := HI60.out; omega)
    have ht0 : w3.cell? ⟨w.heap.size, a * 26 + c, none⟩ = some (.int .i64 (th (a * 26 + c) : Int)) := HTAB.out.cell HJ6.out
    have hf0 : w3.frozen? ⟨w.heap.size, a * 26 + c, none⟩ = false := frozen_tab HTAB.out
    have hbb : wr.heap.size ≠ w.heap.size := by have h1 := (Array.getElem?_eq_some_iff.1 HJ.out.1.tab).1; omega
    have ha26 : (a : Int) < 26 := by have := HA26.out; omega
    have hc26 : (c : Int) < 26 := by have := HA26.out; omega
    have ha26n : a < 26 := HA26.out.1
    have hc26n : c < 26 := HA26.out.2.1
    clear gl gln gli hi60 hi1
    go_region_held3 (fun wz => wz.cell? ⟨wr.heap.size, 0, none⟩ = some (.int .u8 (q.1.toNat : Int)) ∧ wz.cell? ⟨wr.heap.size, 1, none⟩ = some (.int .u8 (q.2.toNat : Int)))
      ((first | exact ⟨m0, m1⟩ | assumption | exact ⟨(cell_set_ne hbb).trans m0, (cell_set_ne hbb).trans m1⟩ | exact ⟨(cell_set_ned hbb).trans m0, (cell_set_ned hbb).trans m1⟩))
      (first | fail)
    go_wp2_with fail
    exact ⟨⟨p', i1, _, _, rfl, rfl, HNX⟩, by simpa [intOf] using HMM.out⟩
end
end Go.Proofs.Ytcjbhjbjkfgphaa
