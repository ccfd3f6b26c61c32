/-
  Slices of calls from a place on; the walk of Cut of package disk. Conditions: the disk lies in memory as DiskIs says, keep as BoolsAt says; the numbers are int's.
-/
import Derived.Test.YtpfdlcogldbocaaCut2
namespace Go.Proofs.Ytpfdlcogldbocaa
open Go.RowKit Go.Maps

/-- Where the slice of the calls from k on lies. -/
def fromAddr (A : Option Addr) (cap k : Nat) : Option Addr := if cap = k then A else Option.map (fun x => x.add (k * 34)) A
theorem calls_from {w : World} {A : Option Addr} {cap k : Nat} {cs : List CallM} (hA : A = none ∨ ∃ g o, A = some ⟨g, o, none⟩) (hc : cs.length ≤ cap) (h : CallsAt w A cs) :
    CallsAt w (fromAddr A cap k) (cs.drop k) ∧ ∀ g o, fromAddr A cap k = some ⟨g, o, none⟩ → ∃ o', A = some ⟨g, o', none⟩ := by
  unfold fromAddr
  by_cases e : cap = k
  · rw [if_pos e]
    refine ⟨fun i c hi => ?_, fun g o hg => ⟨o, hg⟩⟩
    rw [List.drop_eq_nil_of_le (by omega)] at hi
    simp at hi
  · rw [if_neg e]
    refine ⟨fun i c hi => ?_, fun g o hg => ?_⟩
    · rw [List.getElem?_drop] at hi
      obtain ⟨g, o, rfl, hr⟩ := h _ c hi
      refine ⟨g, o + k * 34, by simp [Addr.add_mid], ?_⟩
      rw [show o + k * 34 + i * 34 = o + (k + i) * 34 by omega]
      exact hr
    · rcases hA with rfl | ⟨g', o', rfl⟩
      · cases hg
      · simp only [Option.map_some, Option.some.injEq, Addr.add_mid] at hg
        exact ⟨o', by rw [(Addr.mk.inj hg).1]⟩

theorem RowIs.shape {w w' : World} {v : Value} {cs : List CallM} (h : RowIs w w' v cs) (hok : ∀ c ∈ cs, c.ok) : ∃ A cap, v = .slice A cs.length cap ∧ CallsAt w' A cs ∧ ∀ g o, A = some ⟨g, o, none⟩ → ∃ cur t, w'.heap[g]? = some (.cells cur t (0, 0)) := by
  rcases h.1.2 with ⟨rfl, h0⟩ | ⟨g, cap, cur, rfl, _, hg, _⟩
  · refine ⟨none, 0, by rw [h0], ?_, fun g o e => by cases e⟩
    intro i c hc
    have : i < cs.length := (List.getElem?_eq_some_iff.1 hc).1
    omega
  · refine ⟨some ⟨g, 0, none⟩, cap, rfl, ?_, fun g' o' e => by injection e with e; rw [← (Addr.mk.inj e).1]; exact ⟨cur, _, hg⟩⟩
    intro i c hc
    refine ⟨g, 0, rfl, fun j u hu => ?_⟩
    have := h.1.cells (g := g) rfl (i * 34 + j) u (callsV_at hok i c hc j u hu)
    rw [Addr.add_mid] at this
    rw [← this]
    congr 2
    omega

/-- The disk that begun makes. -/
theorem begun_disk {w : World} {lf n N : Nat} {G : Int → Option (List UInt8)} (h : MapIs Try.prog 3 w lf N G) :
    DiskIs ((w.alloc (.map #[] 0)).alloc (.cells #[.int .i64 (n : Int), .map (some lf), .map (some w.heap.size), .slice none 0 0] 84)) (w.heap.size + 1) lf w.heap.size (.slice none 0 0) n N G (fun _ => none) [] := by
  have s1 : (w.alloc (.map #[] 0)).heap.size = w.heap.size + 1 := by simp
  have lt := h.lt
  refine ⟨?_, ?_, ?_, World.ownsRow_nil _ _ _ _, by omega, by simp⟩
  · have := heap_alloc_new (w.alloc (.map #[] 0)) (.cells #[.int .i64 (n : Int), .map (some lf), .map (some w.heap.size), .slice none 0 0] 84)
    rw [s1] at this
    exact this
  · exact (h.same (w' := w.alloc (.map #[] 0)) (Below.heap_alloc _ _ _ lt)).same (Below.heap_alloc _ _ _ (by simp; omega))
  · exact (MapIs.made (P := Try.prog) (k := 3) w Try.underlying3).same (Below.heap_alloc _ _ _ (by simp))

def KeptAt (w : World) (cs : List CallM) (e : Ending) (w' : World) : Prop :=
  ∃ A cap, e = .returned (.slice A cs.length cap) ∧ CallsAt w' A cs ∧ (∀ g o, A = some ⟨g, o, none⟩ → ∃ cur t, w'.heap[g]? = some (.cells cur t (0, 0))) ∧ Below w.heap.size w w'
theorem KeptIs.at_ {w : World} {cs : List CallM} {e : Ending} {w' : World} (h : KeptIs w cs e w') (hok : ∀ c ∈ cs, c.ok) : KeptAt w cs e w' := by
  obtain ⟨v, rfl, hr⟩ := h
  obtain ⟨A, cap, rfl, h1, h2⟩ := hr.shape hok
  exact ⟨A, cap, rfl, h1, h2, hr.2⟩

theorem DiskIs.slice {w : World} {p bf bs : Nat} {v : Value} {n kf : Nat} {F S : Int → Option (List UInt8)} {cs : List CallM} (h : DiskIs w p bf bs v n kf F S cs) :
    ∃ A cap, v = .slice A cs.length cap ∧ cs.length ≤ cap ∧ cap ≤ maxLen ∧ CallsAt w A cs ∧ (A = none ∨ ∃ g o, A = some ⟨g, o, none⟩) ∧ (∀ g o, A = some ⟨g, o, none⟩ → g < w.heap.size) := by
  have hown := h.2.2.2.1
  rcases hown.2 with ⟨rfl, h0⟩ | ⟨g, cap, cur, rfl, _, hg, hnc, hcm, _⟩
  · refine ⟨none, 0, by rw [h0], by omega, by unfold maxLen; omega, ?_, .inl rfl, fun g o e => by cases e⟩
    intro i c hc
    have : i < cs.length := (List.getElem?_eq_some_iff.1 hc).1
    omega
  · exact ⟨some ⟨g, 0, none⟩, cap, rfl, hnc, hcm, CallsAt.of_own h.2.2.2.2.2 hown, .inr ⟨g, 0, rfl⟩, fun g' o' e => by injection e with e; rw [← (Addr.mk.inj e).1]; exact lt_of_some hg⟩

set_option maxRecDepth 100000 in
set_option maxHeartbeats 4000000 in
theorem cut_in (p bf bs : Nat) (v : Value) (n kf : Nat) (F S : Int → Option (List UInt8)) (cs : List CallM) (at_ torn : Int) (K : Option Addr) (kcap : Nat) (ks : List Bool) (w : World) (h : DiskIs w p bf bs v n kf F S cs) (hF : Blocks32 F) (hkf : kf ≤ 1073741824) (hcs : cs.length ≤ 1073741824)
    (hat : (Lit.int .i64 at_).wf = true) (htorn : (Lit.int .i64 torn).wf = true) (hks : BoolsAt w K ks) (hkl : ks.length ≤ 9223372036854775807) :
    Calls Try.prog 18 #[.pointer (some ⟨p, 0, none⟩), .int .i64 at_, .slice K ks.length kcap, .int .i64 torn] w (CutIs w n kf F cs at_ ks torn) := by
  obtain ⟨A, cap, rfl, hc1, hc2, hca, hA, hAlt⟩ := h.slice
  obtain ⟨m, hm⟩ : ∃ m, m = red at_ (cs.length + 1) := ⟨_, rfl⟩
  unfold CutIs
  rw [← hm]
  have hm1 : m ≤ cs.length := by have := red_lt at_ (cs.length + 1) (by omega); omega
  have hd := Lib.hid h
  have HF := Lib.hid hF
  have c0 := h.cell0
  have c1 := h.cell1
  have c3 := h.cell3
  have HS1 := Lib.hid (fun w => slice_to (w := w) (A := A) (n := cs.length) (cap := cap) (k := m) (by omega) hc2)
  have HR := Lib.hid (fun w => (reduced_any at_ (cs.length + 1) w hat (by omega) (by omega)).mono (fun e w' hh => (⟨by rw [hm]; exact hh.1, hh.2.symm⟩ : e = .returned (.int .i64 (m : Int)) ∧ w' = w)))
  have HCA := Lib.hid hca
  unfold maxLen at hc2
  have hmcap : m ≤ cap := by omega
  obtain ⟨dn, hdn⟩ : ∃ dn, dn = cs.take m := ⟨_, rfl⟩
  have hdl : dn.length = m := by rw [hdn, List.length_take]; omega
  have hdok : ∀ c ∈ dn, c.ok := fun c hc => h.2.2.2.2.2 c (List.mem_of_mem_take (hdn ▸ hc))
  rw [← hdn]
  have HCD : Hid (CallsAt w A dn) := by rw [hdn]; exact hca.take m
  have HDL := Lib.hid hdl
  have HDO := Lib.hid hdok
  have HDN := Lib.hid hdn
  have HM := Lib.hid hm
  have HAL := Lib.hid hAlt
  have HKS := Lib.hid hks
  have HA := Lib.hid hA
  clear h hF hca hat hdl hdok hdn hm hAlt hks hA
  go_enter Try.func18, Try.ntmps18
  go_wp2_with fail
  have hS1 := fun w => HS1.out w
  go_quiet ((go_at_call 47; exact Calls.quiet_of_same (HR.out _)))
  generalize hw0 : w.drewN _ = w0
  have HW0 := Lib.hid hw0
  clear hw0 hS1 c0 c1 c3
  have hB0 : Below w.heap.size w w0 := by rw [← HW0.out]; exact ⟨rfl, rfl, rfl, Nat.le_refl _, fun _ _ => rfl⟩
  have hd0 : DiskIs w0 p bf bs (.slice A cs.length cap) n kf F S cs := by rw [← HW0.out]; exact hd.out
  have c0 := hd0.cell0
  have c1 := hd0.cell1
  have HSY : Hid (Calls Try.prog 48 #[.slice A m cap] w0 (SyncedIs w0 dn)) := by
    have := synced_any A cap dn w0 (by rw [← HW0.out]; exact HCD.out) (by rw [HDL.out]; omega)
    rwa [HDL.out] at this
  have HCO : Hid (Calls Try.prog 49 #[.map (some bf)] w0 (CopiedIs w0 kf F)) := copied_any bf kf F w0 hd0.2.1 HF.out (by omega)
  have HD0 := Lib.hid hd0
  clear hd0
  go_wp2_with (first
    | (go_at_call 48; refine HSY.out.mono ?_; rintro e w' ⟨k, rfl, hk, rfl⟩; have hkm : k ≤ m := Nat.le_trans hk.1 (Nat.le_of_eq HDL.out); have hkc : (k : Int) ≤ (cap : Int) := (by omega); have hk0 : (0 : Int) ≤ (k : Int) := (by omega); have HK := Lib.hid hk; clear hk)
    | (go_at_call 49; refine HCO.out.mono ?_; rintro e w1 ⟨lf, rfl, hlf, hml, hB1⟩))
  have hB01 : Below w.heap.size w w1 := hB0.trans (hB1.mono hB0.size)
  have hlf' : w.heap.size ≤ lf := Nat.le_trans hB0.size hlf
  go_loopw [44] (fun ii wr => ∃ i : Nat, ii = .int .i64 (i : Int) ∧ i ≤ k ∧ MapIs Try.prog 3 wr lf (kf + i) (layTo F (dn.take k) (fun _ => 32) i) ∧ Below w.heap.size w wr) (fun ii _ => k - (intOf ii).toNat)
  case atStart => exact ⟨0, rfl, Nat.zero_le _, hml, hB01⟩
  case round =>
    obtain ⟨i, rfl, hi, hmi, hbi⟩ := hrel
    by_cases hlt : i < k
    · have hdm : i < dn.length := by rw [HDL.out]; omega
      obtain ⟨g, o, hAe, hr⟩ := HCD.out i dn[i] (List.getElem?_eq_getElem hdm)
      have hg := HAL.out g o hAe
      subst hAe
      have HRG : Hid (wr.rangeAt g (o + i * 34) dn[i].cells) := fun j u hu => (hbi.cell (p := ⟨g, o + i * 34 + j, none⟩) hg).trans (hr j u hu)
      have hcok := HDO.out dn[i] (List.getElem_mem _)
      have HI : Hid ((Try.prog.info? 86).map (·.size) = some dn[i].cells.length) := by unfold Hid; rw [size_call, CallM.length_cells hcok]
      have HI2 : Hid ((Try.prog.info? 86).map (·.size) = some dn[i].cells.toArray.size) := by unfold Hid; rw [size_call, List.size_toArray, CallM.length_cells hcok]
      have HZ : Hid (34 = dn[i].cells.toArray.size) := by unfold Hid; rw [List.size_toArray, CallM.length_cells hcok]
      have HF32 : Blocks32 (layTo F (dn.take k) (fun _ => 32) i) := blocks32_layTo HF.out (fun c hc => HDO.out c (List.mem_of_mem_take hc)) (fun _ => Nat.le_refl _) i (by rw [List.length_take, HDL.out]; omega)
      have HL : Hid (Calls Try.prog 50 #[.map (some lf), .agg dn[i].cells.toArray, .int .i64 32] (wr.alloc (.cells dn[i].cells.toArray 86)) (LaidIs (wr.alloc (.cells dn[i].cells.toArray 86)) lf (kf + i + 1) (laid (layTo F (dn.take k) (fun _ => 32) i) dn[i] 32))) :=
        lay_any lf (kf + i) _ dn[i] 32 _ (hmi.same (Below.heap_alloc _ _ _ hmi.lt)) HF32 hcok (Nat.le_refl _) (by omega)
      have hik : (i : Int) < (k : Int) := by omega
      have HRN : Hid ((wr.alloc (.cells dn[i].cells.toArray 86)).rangeAt wr.heap.size 0 dn[i].cells) := fun j u hu => by
        rw [cell_of_row _ _ _ _ _ _ (heap_alloc_new wr _)]
        simpa using hu
      clear hr hg HF32 hcok
      go_wp2_with (first
        | (refine wpList_load_at (x := 46) (cs := dn[i].cells) rfl HRG.out Try.underlying86 rfl HI.out ?_)
        | (refine wpList_store_new (x := 13) (y := 47) (cells := dn[i].cells.toArray) rfl rfl HI2.out HZ.out (all_oneCell_toArray CallM.oneCell) ?_)
        | (refine wpList_load_at (x := 13) (cs := dn[i].cells) rfl HRN.out Try.underlying86 rfl HI.out ?_)
        | (go_at_call 50; refine HL.out.mono ?_; rintro e w2 ⟨rfl, hm2, ht2⟩))
      go_roundw
      case rel =>
        have e : (dn.take k).getD i syncM = dn[i] := by
          rw [List.getD_eq_getElem?_getD, List.getElem?_take, if_pos hlt, List.getElem?_eq_getElem hdm]; rfl
        refine ⟨i + 1, by go_num, by omega, ?_, (hbi.alloc hbi.size _).trans (ht2.below (by have := hbi.size; simp; omega) (fun x hx => by rw [hx]; exact hlf'))⟩
        show MapIs Try.prog 3 w2 lf (kf + (i + 1)) (laid (layTo F (dn.take k) (fun _ => 32) i) ((dn.take k).getD i syncM) 32)
        rw [e]
        exact hm2
      case measure => simp [intOf]; omega
    · obtain rfl : i = k := by omega
      obtain ⟨G, hG⟩ : ∃ G, G = layTo F (dn.take i) (fun _ => 32) i := ⟨_, rfl⟩
      rw [← hG] at hmi
      have hG32 : Blocks32 G := by rw [hG]; exact blocks32_layTo HF.out (fun c hc => HDO.out c (List.mem_of_mem_take hc)) (fun _ => Nat.le_refl _) i (by rw [List.length_take, HDL.out]; omega)
      obtain ⟨sv, hsv⟩ : ∃ sv, sv = keptM (dn.drop i) ks := ⟨_, rfl⟩
      have hsvok : ∀ c ∈ sv, c.ok := fun c hc => HDO.out c (List.mem_of_mem_drop (keptM_mem (dn.drop i) ks c (hsv ▸ hc)))
      have hsvl : sv.length ≤ m - i := by
        rw [hsv]
        refine Nat.le_trans (keptTo_len _ _ _) (Nat.le_trans (Nat.min_le_left _ _) ?_)
        rw [List.length_drop, HDL.out]; omega
      have hcf := calls_from (k := i) HA.out (by rw [HDL.out]; exact hmcap) HCD.out
      obtain ⟨A2, hA2⟩ : ∃ A2, fromAddr A cap i = A2 := ⟨_, rfl⟩
      rw [hA2] at hcf
      have hcaw : CallsAt wr A2 (dn.drop i) := hcf.1.keep hbi (fun g o e => by obtain ⟨o', e'⟩ := hcf.2 g o e; exact HAL.out g o' e')
      have hksw : BoolsAt wr K ks := fun j b hb => by
        obtain ⟨g, o, e, hc⟩ := HKS.out j b hb
        exact ⟨g, o, e, (hbi.cell (p := ⟨g, o + j, none⟩) (World.block_lt_of_cell? w _ hc)).trans hc⟩
      have HKP : Hid (Calls Try.prog 51 #[.slice A2 (m - i) (cap - i), .slice K ks.length kcap] wr (KeptAt wr sv)) := by
        have := kept_any A2 K (cap - i) kcap (dn.drop i) ks wr hcaw hksw (fun c hc => HDO.out c (List.mem_of_mem_drop hc)) (by rw [List.length_drop, HDL.out]; omega) hkl
        rw [List.length_drop, HDL.out] at this
        rw [hsv]
        exact this.mono fun e w' hh => hh.at_ (by rw [← hsv]; exact hsvok)
      unfold fromAddr at hA2
      have him : (i : Int) ≤ (m : Int) := by omega
      have hmc : (m : Int) ≤ (cap : Int) := by omega
      have c0r : Hid (wr.cell? ⟨p, 0, none⟩ = some (.int .i64 (n : Int))) := (hbi.cell (p := ⟨p, 0, none⟩) (World.block_lt_of_cell? w _ hd.out.cell0)).trans hd.out.cell0
      have HG32 := Lib.hid hG32
      have HSVO := Lib.hid hsvok
      have HSV := Lib.hid hsv
      have HG := Lib.hid hG
      have HMI := Lib.hid hmi
      clear hcaw hksw hcf hG32 hsvok hsv hG
      go_wp2_with (go_at_call 51; refine HKP.out.mono ?_; rintro e w3 ⟨A3, cap3, rfl, hca3, hbk3, hB3⟩)
      have hm3 : MapIs Try.prog 3 w3 lf (kf + i) G := HMI.out.same (hB3.block _ HMI.out.lt)
      have hb3 : Below w.heap.size w w3 := hbi.trans (hB3.mono hbi.size)
      have hpl : p < w.heap.size := World.block_lt_of_cell? w _ hd.out.cell0
      have c03 : Hid (w3.cell? ⟨p, 0, none⟩ = some (.int .i64 (n : Int))) := (hB3.cell (p := ⟨p, 0, none⟩) (World.block_lt_of_cell? wr _ c0r.out)).trans c0r.out
      have HCA3 := Lib.hid hca3
      have HBK3 := Lib.hid hbk3
      clear hca3 hbk3
      have hsl : (sv.length : Int) ≤ 1073741824 := by omega
      go_loopw [59] (fun ii wx => ∃ j : Nat, ii = .int .i64 (j : Int) ∧ j ≤ sv.length ∧ MapIs Try.prog 3 wx lf (kf + i + j) (layTo G sv (sizes sv.length torn) j) ∧ Turned (fun x => x = lf) w3 wx) (fun ii _ => sv.length - (intOf ii).toNat)
      case atStart => exact ⟨0, rfl, Nat.zero_le _, hm3, Turned.refl _ _⟩
      case round =>
        obtain ⟨j, rfl, hj, hmj, htj⟩ := hrel
        by_cases hjl : j < sv.length
        · obtain ⟨g, o, hAe, hr⟩ := HCA3.out j sv[j] (List.getElem?_eq_getElem hjl)
          obtain ⟨cur, tt, hgo⟩ := HBK3.out g o hAe
          subst hAe
          have hglf : g ≠ lf := hm3.ne_cells hgo
          have HRG : Hid (wr.rangeAt g (o + j * 34) sv[j].cells) := fun y u hu => htj.cell (hr y u hu) hglf
          have hcok := HSVO.out sv[j] (List.getElem_mem _)
          have HI : Hid ((Try.prog.info? 86).map (·.size) = some sv[j].cells.length) := by unfold Hid; rw [size_call, CallM.length_cells hcok]
          have HI2 : Hid ((Try.prog.info? 86).map (·.size) = some sv[j].cells.toArray.size) := by unfold Hid; rw [size_call, List.size_toArray, CallM.length_cells hcok]
          have HZ : Hid (34 = sv[j].cells.toArray.size) := by unfold Hid; rw [List.size_toArray, CallM.length_cells hcok]
          have HF32 : Blocks32 (layTo G sv (sizes sv.length torn) j) := blocks32_layTo HG32.out HSVO.out (sizes_le _ _) j (by omega)
          have HL : Hid (Calls Try.prog 50 #[.map (some lf), .agg sv[j].cells.toArray, .int .i64 (sizes sv.length torn j : Int)] (wr.alloc (.cells sv[j].cells.toArray 86)) (LaidIs (wr.alloc (.cells sv[j].cells.toArray 86)) lf (kf + i + j + 1) (laid (layTo G sv (sizes sv.length torn) j) sv[j] (sizes sv.length torn j)))) :=
            lay_any lf (kf + i + j) _ sv[j] _ _ (hmj.same (Below.heap_alloc _ _ _ hmj.lt)) HF32 hcok (sizes_le _ _ _) (by omega)
          have HRN : Hid ((wr.alloc (.cells sv[j].cells.toArray 86)).rangeAt wr.heap.size 0 sv[j].cells) := fun y u hu => by
            rw [cell_of_row _ _ _ _ _ _ (heap_alloc_new wr _)]
            simpa using hu
          have hji : (j : Int) < (sv.length : Int) := by omega
          clear hr hgo hglf HF32 hcok
          by_cases hla : j + 1 = sv.length
          · have hz : sizes sv.length torn j = red torn 33 := if_pos hla
            have e1 : ((j : Int) == (sv.length : Int) - 1) = true := by simp; omega
            rw [hz] at HL
            have HT : Hid (∀ W, Calls Try.prog 47 #[.int .i64 torn, .int .i64 33] W fun e w' => e = .returned (.int .i64 (red torn 33 : Int)) ∧ W = w') := fun W => reduced_any torn 33 W htorn (by omega) (by omega)
            have HLA := Lib.hid hla
            have HZZ := Lib.hid hz
            clear hla hz
            go_wp2_with (first
              | (refine wpList_load_at (x := 62) (cs := sv[j].cells) rfl HRG.out Try.underlying86 rfl HI.out ?_)
              | (refine wpList_store_new (x := 16) (y := 63) (cells := sv[j].cells.toArray) rfl rfl HI2.out HZ.out (all_oneCell_toArray CallM.oneCell) ?_)
              | (refine wpList_load_at (x := 16) (cs := sv[j].cells) rfl HRN.out Try.underlying86 rfl HI.out ?_)
              | (go_at_call 47; refine (HT.out _).mono ?_; rintro e w' ⟨rfl, rfl⟩)
              | (go_at_call 50; refine HL.out.mono ?_; rintro e w4 ⟨rfl, hm4, ht4⟩))
            go_roundw
            case rel =>
              refine ⟨j + 1, by go_num, by omega, ?_, (htj.trans (Turned.of_below ((Below.refl _ _).alloc (Nat.le_refl _) _)) (fun x _ hx => hx)).trans ht4 (fun x _ hx => hx)⟩
              show MapIs Try.prog 3 w4 lf (kf + i + (j + 1)) (laid (layTo G sv (sizes sv.length torn) j) (sv.getD j syncM) (sizes sv.length torn j))
              rw [HZZ.out, List.getD_eq_getElem?_getD, List.getElem?_eq_getElem hjl]
              exact hm4
            case measure => simp [intOf]; omega
          · have hz : sizes sv.length torn j = 32 := if_neg hla
            have e1 : ((j : Int) == (sv.length : Int) - 1) = false := by simp; omega
            rw [hz] at HL
            have HL' : Hid (Calls Try.prog 50 #[.map (some lf), .agg sv[j].cells.toArray, .int .i64 32] (wr.alloc (.cells sv[j].cells.toArray 86)) (LaidIs (wr.alloc (.cells sv[j].cells.toArray 86)) lf (kf + i + j + 1) (laid (layTo G sv (sizes sv.length torn) j) sv[j] 32))) := HL.out
            have HLA := Lib.hid hla
            have HZZ := Lib.hid hz
            clear hla hz
            go_wp2_with (first
              | (refine wpList_load_at (x := 62) (cs := sv[j].cells) rfl HRG.out Try.underlying86 rfl HI.out ?_)
              | (refine wpList_store_new (x := 16) (y := 63) (cells := sv[j].cells.toArray) rfl rfl HI2.out HZ.out (all_oneCell_toArray CallM.oneCell) ?_)
              | (refine wpList_load_at (x := 16) (cs := sv[j].cells) rfl HRN.out Try.underlying86 rfl HI.out ?_)
              | (go_at_call 50; refine HL'.out.mono ?_; rintro e w4 ⟨rfl, hm4, ht4⟩))
            go_roundw
            case rel =>
              refine ⟨j + 1, by go_num, by omega, ?_, (htj.trans (Turned.of_below ((Below.refl _ _).alloc (Nat.le_refl _) _)) (fun x _ hx => hx)).trans ht4 (fun x _ hx => hx)⟩
              show MapIs Try.prog 3 w4 lf (kf + i + (j + 1)) (laid (layTo G sv (sizes sv.length torn) j) (sv.getD j syncM) (sizes sv.length torn j))
              rw [HZZ.out, List.getD_eq_getElem?_getD, List.getElem?_eq_getElem hjl]
              exact hm4
            case measure => simp [intOf]; omega
        · obtain rfl : j = sv.length := by omega
          have c0x : wr.cell? ⟨p, 0, none⟩ = some (.int .i64 (n : Int)) := htj.cell c03.out (fun e => by have : p = lf := e; omega)
          have hbx : Below w.heap.size w wr := hb3.trans (htj.below (by have := hb3.size; omega) (fun x hx => by rw [hx]; exact hlf'))
          have HMJ := Lib.hid hmj
          go_wp2_with (go_at_call 32; refine (begun_any _ _ _).mono ?_; rintro e w' ⟨rfl, rfl⟩)
          go_ret
          have hdk := begun_disk (n := n) HMJ.out
          refine ⟨i, wr.heap.size + 1, lf, wr.heap.size, .slice none 0 0, HK.out, rfl, ?_, ?_, ?_⟩
          · have e : cutF F dn i ks torn = layTo G sv (sizes sv.length torn) sv.length := by
              unfold cutF
              rw [← HSV.out, ← HG.out]
            rw [e]
            obtain ⟨q1, q2, q3⟩ := hdk
            exact ⟨q1, q2.mono (by omega), q3⟩
          · rintro x (rfl | rfl | rfl | hx)
            · have := hbx.size; omega
            · exact hlf'
            · have := hbx.size; omega
            · cases hx
          · exact (hbx.alloc hbx.size _).alloc (by have := hbx.size; simp; omega) _
end Go.Proofs.Ytpfdlcogldbocaa
