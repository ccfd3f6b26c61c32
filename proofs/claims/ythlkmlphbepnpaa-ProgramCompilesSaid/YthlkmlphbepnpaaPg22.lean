/-
  Package program's Files, walked. Condition: fewer than a million commands.
-/
import Derived.Test.YthlkmlphbepnpaaPg21
namespace Go.Proofs.Ythlkmlphbepnpaa
open Go.RowKit Go.Deep Go.Sort

theorem OwnS.holds {w : World} {B g cap : Nat} {P : List Bs} (h : OwnS w B (.slice (some ⟨g, 0, none⟩) P.length cap) P) : Holds encStr w g 0 P.toArray ∧ g < w.heap.size ∧ P.length ≤ cap ∧ B ≤ g ∧ cap ≤ maxLen := by
  rcases h.2 with ⟨h0, _⟩ | ⟨g', cap', cur, e, hB, hg, hn, hc, hs, ht⟩
  · cases h0
  · injection e with e1 e2 e3
    injection e1 with e1
    injection e1 with e1
    subst e1
    subst e3
    refine ⟨fun j hj => ?_, lt_of_some hg, hn, hB, hc⟩
    have hj2 : j < P.length := by simpa using hj
    rw [Nat.zero_add]
    refine ⟨?_, frozen_of_row w g j _ _ hg⟩
    rw [obj_cell hg]
    have h1 : (sV P)[j]? = some (.string (txt P[j])) := by simp [sV, hj2]
    rw [← ht, List.getElem?_take] at h1
    split at h1
    · have h2 : P.toArray[j]! = P[j] := get_bang P hj2
      rw [h2]
      have h3 : cur[j]? = some (.string (txt P[j])) := by simpa using h1
      exact h3
    · cases h1
theorem sort_own {w : World} {B g cap : Nat} {P : List Bs} (h : OwnS w B (.slice (some ⟨g, 0, none⟩) P.length cap) P) (hP : P.length ≤ 1048576) : Calls Try.prog 25 #[.slice (some ⟨g, 0, none⟩) P.length cap] w fun e w' => e = .returned (.tuple #[]) ∧ Turned (fun k => k = g) w w' ∧ OwnS w' B (.slice (some ⟨g, 0, none⟩) P.length cap) (P.mergeSort fun x y => decide (x ≤ y)) := by
  obtain ⟨hH, hg, hn, hB, hc⟩ := h.holds
  refine (Try.slices_Sort_string g 0 cap P w hH hg (by omega)).mono fun e w' ⟨he, n, os, hw⟩ => ⟨he, ?_, ?_⟩
  · rw [hw]
    exact Turned.of_grown (grownBy_sorted _) fun k hk => by injection hk with hk; exact hk.symm
  · rcases h.2 with ⟨h0, _⟩ | ⟨g', cap', cur, e', hB', hg', hn', hc', hs', ht'⟩
    · cases h0
    · injection e' with e1 e2 e3
      injection e1 with e1
      injection e1 with e1
      subst e1
      subst e3
      have hl : (P.mergeSort fun x y => decide (x ≤ y)).length = P.length := List.length_mergeSort P
      have := ownsRow_sorted (w := w) (n := n) (os := os) (ss := P) hl hB' hg' hn' hc' hs'
      rw [← hw] at this
      unfold OwnS
      rw [hl]
      exact this
theorem compact_own {w : World} {B g cap : Nat} {P : List Bs} (h : OwnS w B (.slice (some ⟨g, 0, none⟩) P.length cap) P) (hP : P.length ≤ 1048576) : Calls Try.prog 26 #[.slice (some ⟨g, 0, none⟩) P.length cap] w fun e w' => e = .returned (.slice (some ⟨g, 0, none⟩) (Lib.compact P).length cap) ∧ Turned (fun k => k = g) w w' ∧ RawAt w' (some ⟨g, 0, none⟩) (sV (Lib.compact P)) := by
  obtain ⟨hH, hg, hn, hB, hc⟩ := h.holds
  refine (Try.slices_Compact_string g 0 cap P w hH (by omega) hn).mono fun e w' ⟨he, q, hw⟩ => ⟨he, ?_, ?_⟩
  · have hgr := grownBy_sorted (w := w) (g := g) (n := q) (os := #[]) (Lib.compact P ++ List.replicate (P.length - (Lib.compact P).length) []).toArray
    rw [grow_empty, ← hw] at hgr
    exact Turned.of_grown hgr fun k hk => by injection hk with hk; exact hk.symm
  · refine .inr ⟨g, 0, rfl, fun j v hv => ?_⟩
    have hle := Lib.compact_length_le P
    have hj : j < (Lib.compact P).length := by
      have := (List.getElem?_eq_some_iff.1 hv).1
      simpa [sV] using this
    have hsz : (Lib.compact P ++ List.replicate (P.length - (Lib.compact P).length) []).toArray.size = P.toArray.size := by simp; omega
    have h1 := cell?_putRow encStr (Sort.ahead w q) g 0 P.toArray _ (fun i hi => hH i hi) hsz j (by rw [hsz]; simp; omega)
    rw [hw, h1]
    have h2 : (sV (Lib.compact P))[j]? = some (.string (txt (Lib.compact P)[j])) := by simp [sV, hj]
    rw [h2] at hv
    rw [← hv, get_bang _ (by simp; omega), List.getElem_append_left hj]
    rfl
theorem file_full {t : ByteArray} (h : t ≠ ⟨#[]⟩) : t.toList.isEmpty = false := by
  cases hx : t.toList with
  | nil =>
    exfalso
    apply h
    have : t.data.toList = [] := by rw [← ByteArray.toList_eq]; exact hx
    rw [← txt_of t, this]
    rfl
  | cons => rfl
set_option maxRecDepth 100000 in
set_option maxHeartbeats 4000000 in
theorem files_are {cs : List CM} {cl : Nat} {A : Option Addr} {w : World} (hr : RawAt w A (cmV cs)) (hl : cs.length ≤ 1048576) : Calls Try.prog 14 #[.slice A cs.length cl] w (FilesAns cs w) := by
  unfold FilesAns
  have HR := Lib.hid (show ∀ W, Below w.heap.size w W → RawAt W A (cmV cs) from fun W hW => hr.below hW)
  have HL := Lib.hid hl
  have HS := Lib.hid (show PaJ cs w w 0 (.slice none 0 0) from ⟨Nat.zero_le _, OwnS.nil w _, Below.refl _ _⟩)
  clear hr hl
  go_enter Try.func14, Try.ntmps14
  go_wp2_with fail
  go_loopw [3, 5, 8] (fun v _ iv wz => ∃ (m : Nat) (V : Value), V = v ∧ iv = .int .i64 (m : Int) ∧ Hid (PaJ cs w wz m V)) (fun _ _ iv _ => cs.length + 1 - (intOf iv).toNat)
  case atStart => exact ⟨0, _, rfl, rfl, HS⟩
  case round =>
    clear HS
    obtain ⟨m, v, hv, rfl, HJ⟩ := hrel
    subst hv
    have hle := HJ.out.le
    by_cases hm : m < cs.length
    case neg =>
      have hd : decide ((m : Int) < (cs.length : Int)) = false := decide_eq_false (by omega)
      have hdn : decide (m < cs.length) = false := decide_eq_false hm
      have hll : (cs.length : Int) ≤ (m : Int) := by omega
      have hme : m = cs.length := by omega
      have HO := Lib.hid (show OwnS wr w.heap.size v (pathsF cs cs.length) by rw [← hme]; exact HJ.out.own)
      have HPL := Lib.hid (show (pathsF cs cs.length).length ≤ 1048576 from Nat.le_trans (pathsF_len _ _) HL.out)
      have HB := Lib.hid HJ.out.bel
      obtain ⟨P, hP⟩ : ∃ P, P = pathsF cs cs.length := ⟨_, rfl⟩
      rw [← hP] at HO HPL
      have HPP := Lib.hid hP
      clear hle hm hme hP HJ
      obtain ⟨A2, c2, rfl, _⟩ := own_form HO.out
      by_cases h0 : P = []
      · subst h0
        have HSO := Lib.hid (Try.slices_Sort_string_none A2 c2 wr)
        have HCO := Lib.hid (Try.slices_Compact_string_empty A2 c2 wr)
        go_wp2_with fail
        go_at_call 25
        with_reducible refine HSO.out.mono ?_
        rintro e w1 ⟨rfl, rfl⟩
        go_wp2_with fail
        go_at_call 26
        with_reducible refine HCO.out.mono ?_
        rintro e w2 ⟨rfl, rfl⟩
        go_wp2_with fail
        go_ret
        exact ⟨HB.out, A2, c2, [], rfl, .inl rfl, List.Pairwise.nil, Nat.zero_le _, fun x => by rw [← HPP.out]⟩
      · obtain ⟨g, rfl⟩ : ∃ g, A2 = some ⟨g, 0, none⟩ := by
          rcases HO.out.2 with ⟨_, h1⟩ | ⟨g, cap, cur, e, _⟩
          · exact absurd (List.eq_nil_of_length_eq_zero h1) h0
          · injection e with e
            exact ⟨g, e⟩
        have HBG := Lib.hid (HO.out.holds).2.2.2.1
        have HSO := Lib.hid (sort_own HO.out HPL.out)
        clear h0
        go_wp2_with fail
        go_at_call 25
        with_reducible refine HSO.out.mono ?_
        rintro e w1 ⟨rfl, ht1, hown1⟩
        obtain ⟨S, hS⟩ : ∃ S, S = P.mergeSort fun x y => decide (x ≤ y) := ⟨_, rfl⟩
        have hSl : P.length = S.length := by rw [hS]; exact (List.length_mergeSort P).symm
        rw [← hS, hSl] at hown1
        have HB1 := Lib.hid (HB.out.trans (ht1.below HB.out.size fun k hk => by rw [hk]; exact HBG.out))
        have HCO := Lib.hid (compact_own hown1 (by rw [← hSl]; exact HPL.out))
        have HSS := Lib.hid hS
        rw [← hSl] at HCO
        clear ht1 hown1 hS hSl
        go_wp2_with fail
        go_at_call 26
        with_reducible refine HCO.out.mono ?_
        rintro e w2 ⟨rfl, ht2, hraw⟩
        have HB2 := Lib.hid (HB1.out.trans (ht2.below HB1.out.size fun k hk => by rw [hk]; exact HBG.out))
        have HRW := Lib.hid hraw
        clear ht2 hraw
        go_wp2_with fail
        go_ret
        refine ⟨HB2.out, _, c2, Lib.compact S, rfl, HRW.out, ?_, ?_, fun x => ?_⟩
        · rw [HSS.out]; exact (compact_ok P).1
        · have h1 := Lib.compact_length_le S
          have h2 : S.length = P.length := by rw [HSS.out]; exact List.length_mergeSort P
          have h3 := pathsF_len cs cs.length
          rw [← HPP.out] at h3
          omega
        · rw [HSS.out, ← HPP.out]; exact (compact_ok P).2 x
    obtain ⟨c, hc⟩ : ∃ c, cs[m]? = some c := ⟨cs[m], by simp [hm]⟩
    obtain ⟨g, o, rfl, hcells⟩ := raw_elem CM.len (by omega) (HR.out _ HJ.out.bel) hc
    have hli : (m : Int) < (cs.length : Int) := by omega
    have hd : decide ((m : Int) < (cs.length : Int)) = true := decide_eq_true hli
    have hdn : decide (m < cs.length) = true := decide_eq_true hm
    have hml : m ≤ 1048576 := by have := HL.out; omega
    have hadd : IntKind.i64.wrap ((m : Int) + 1) = ((m + 1 : Nat) : Int) := by rw [IntWalk.i64_in _ (by omega)]; omega
    obtain ⟨m1, hm1⟩ : ∃ m1, m1 = m + 1 := ⟨_, rfl⟩
    rw [← hm1] at hadd
    have HM := Lib.hid (And.intro hm1 hm)
    have HC := Lib.hid hc
    have HCE := Lib.hid hcells
    clear hle hm hml hm1 hc hcells
    go_wp2_with (first | (refine wpList_load_cmd rfl (.tmp 10) rfl rfl HCE.out ?_) | (refine wpList_alloc_cmd rfl rfl ?_; intro Z hZ; have HZ := Lib.hid hZ; clear hZ) | (refine wpList_box_cmd rfl (.tmp 5) (.tmp 11) rfl rfl rfl HZ.out ?_))
    intro W hW hbW hsW
    obtain ⟨kN, kT, kF, _⟩ := box_cmd hW
    have HBW := Lib.hid hbW
    obtain ⟨p, hp⟩ : ∃ p, p = wr.heap.size := ⟨_, rfl⟩
    rw [← hp] at kN kT kF ⊢
    clear hW hbW hp hsW
    by_cases hw : c.name = 119
    case pos =>
      have g1 : (c.name == 119) = true := by rw [hw]; rfl
      have HPO := Lib.hid (show pathOf c = some c.text.data.toList by unfold pathOf; rw [if_pos hw])
      have HBB := Lib.hid (bW W (.cells #[.string c.text] 9))
      have HV := Lib.hid (show (W.alloc (.cells #[.string c.text] 9)).ownsRow w.heap.size 9 1 v (pathsF cs m).length (sV (pathsF cs m)) from (HJ.out.own.below HBW.out).below HBB.out)
      have HRW := Lib.hid (show RawAt (W.alloc (.cells #[.string c.text] 9)) (some ⟨W.heap.size, 0, none⟩) [.string c.text] from raw_new W [.string c.text] 9)
      have HNN := Lib.hid (show (pathsF cs m).length + 1 ≤ 1099511627776 ∧ w.heap.size ≤ (W.alloc (.cells #[.string c.text] 9)).heap.size by
        have h1 := pathsF_len cs m
        have h2 := HL.out
        have h3 := HJ.out.bel.size
        have h4 := HBW.out.size
        have h5 := HM.out.2
        rw [World.size_alloc]
        omega)
      clear hw
      go_wp2_with (refine wpList_append_raw 20 [.string c.text] elem_str HV.out HRW.out rfl (by simp [Value.oneCell']) rfl rfl HNN.out.1 HNN.out.2 ?_)
      intro v' w' hv' ht hk
      have HF := Lib.hid (show PaJ cs w w' m1 v' by
        rw [HM.out.1]
        refine HJ.out.put (HBW.out.trans (HBB.out.mono HBW.out.size)) HC.out HPO.out ?_ ht
        rw [txt_of]
        exact hv')
      clear hv' ht hk
      go_wp2_with fail
      go_roundw
      case rel => exact ⟨m1, v', rfl, rfl, HF⟩
      case measure => have := HM.out; simp [intOf]; omega
    by_cases hs : c.name = 115
    case neg =>
      have g1 : (c.name == 119) = false := by rw [beq_eq_false_iff_ne]; exact hw
      have g2 : (c.name == 115) = false := by rw [beq_eq_false_iff_ne]; exact hs
      have n2 : ¬ c.name = 115 := hs
      have HN := Lib.hid (show PaJ cs w W m1 v by rw [HM.out.1]; exact HJ.out.skip HBW.out HC.out (by unfold pathOf; rw [if_neg hw, if_neg (fun h => hs h.1)]))
      clear hw hs
      go_wp2_with fail
      go_roundw
      case rel => exact ⟨m1, v, rfl, rfl, HN⟩
      case measure => have := HM.out; simp [intOf]; omega
    have g1 : (c.name == 119) = false := by rw [beq_eq_false_iff_ne]; exact hw
    have g2 : (c.name == 115) = true := by rw [hs]; rfl
    by_cases he : c.file = ⟨#[]⟩
    · have ge : c.file.toList.isEmpty = true := by rw [he, ByteArray.toList_eq]; rfl
      have HN := Lib.hid (show PaJ cs w W m1 v by rw [HM.out.1]; exact HJ.out.skip HBW.out HC.out (by unfold pathOf; rw [if_neg hw, if_neg (fun h => h.2 he)]))
      clear hw hs he
      go_wp2_with fail
      go_roundw
      case rel => exact ⟨m1, v, rfl, rfl, HN⟩
      case measure => have := HM.out; simp [intOf]; omega
    · have ge := file_full he
      have HPO := Lib.hid (show pathOf c = some c.file.data.toList by unfold pathOf; rw [if_neg hw, if_pos ⟨hs, he⟩])
      have HBB := Lib.hid (bW W (.cells #[.string c.file] 9))
      have HV := Lib.hid (show (W.alloc (.cells #[.string c.file] 9)).ownsRow w.heap.size 9 1 v (pathsF cs m).length (sV (pathsF cs m)) from (HJ.out.own.below HBW.out).below HBB.out)
      have HRW := Lib.hid (show RawAt (W.alloc (.cells #[.string c.file] 9)) (some ⟨W.heap.size, 0, none⟩) [.string c.file] from raw_new W [.string c.file] 9)
      have HNN := Lib.hid (show (pathsF cs m).length + 1 ≤ 1099511627776 ∧ w.heap.size ≤ (W.alloc (.cells #[.string c.file] 9)).heap.size by
        have h1 := pathsF_len cs m
        have h2 := HL.out
        have h3 := HJ.out.bel.size
        have h4 := HBW.out.size
        have h5 := HM.out.2
        rw [World.size_alloc]
        omega)
      clear hw hs he
      go_wp2_with (refine wpList_append_raw 34 [.string c.file] elem_str HV.out HRW.out rfl (by simp [Value.oneCell']) rfl rfl HNN.out.1 HNN.out.2 ?_)
      intro v' w' hv' ht hk
      have HF := Lib.hid (show PaJ cs w w' m1 v' by
        rw [HM.out.1]
        refine HJ.out.put (HBW.out.trans (HBB.out.mono HBW.out.size)) HC.out HPO.out ?_ ht
        rw [txt_of]
        exact hv')
      clear hv' ht hk
      go_wp2_with fail
      go_roundw
      case rel => exact ⟨m1, v', rfl, rfl, HF⟩
      case measure => have := HM.out; simp [intOf]; omega
end Go.Proofs.Ythlkmlphbepnpaa
