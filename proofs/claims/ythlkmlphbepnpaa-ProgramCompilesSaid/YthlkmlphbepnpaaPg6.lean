/-
  Package program's resolveLabels: the jumps of b and t, or the command that is wrong. Conditions: at most a million commands, texts of at most a million bytes.
-/
import Derived.Test.YthlkmlphbepnpaaPg5
import Derived.Laws.Strings3
import Derived.Deep.Cut
import Derived.BigGuard
namespace Go.Proofs.Ythlkmlphbepnpaa
open Go.RowKit Go.Deep

/-- What resolving the labels answers, and what it leaves. -/
def LBAns (N : Nat → Int) (T : Nat → ByteArray) (n gj : Nat) (J0 : Nat → Int) (w : World) (e : Ending) (w' : World) : Prop := ∃ r J, LB N T n r ∧ e = .returned (.int .i64 (wrongV r)) ∧ Turned (fun k => k = gj) w w' ∧ JAt w' gj n J ∧ (r = none → JL N T n n J0 J)
/-- What holds where a round of the first loop begins. -/
structure L1 (l : List CM) (gj b : Nat) (J0 : Nat → Int) (w wr : World) (m : Nat) : Prop where
  le : m ≤ l.length
  dis : Dis (cN l) (cT l) m
  lab : LabAt wr b m (cN l) (cT l)
  bel : Below w.heap.size w wr
  big : w.heap.size ≤ b
theorem Dis.skip {N : Nat → Int} {T : Nat → ByteArray} {m : Nat} (h : Dis N T m) (hn : N m ≠ 58) : Dis N T (m + 1) := fun i hi h58 k hk hk58 => by
  rcases Nat.lt_or_ge i m with h1 | h1
  · exact h i h1 h58 k hk hk58
  · obtain rfl : i = m := by omega
    exact absurd h58 hn
theorem Dis.put {N : Nat → Int} {T : Nat → ByteArray} {m : Nat} (h : Dis N T m) (hn : ∀ k, k < m → N k = 58 → T k ≠ T m) : Dis N T (m + 1) := fun i hi h58 k hk hk58 => by
  rcases Nat.lt_or_ge i m with h1 | h1
  · exact h i h1 h58 k hk hk58
  · obtain rfl : i = m := by omega
    exact hn k hk hk58
/-- .. of the second loop. -/
structure L2 (l : List CM) (gj b : Nat) (J0 : Nat → Int) (w wr : World) (m : Nat) (J : Nat → Int) : Prop where
  le : m ≤ l.length
  jl : JL (cN l) (cT l) l.length m J0 J
  found : ∀ j, j < m → (cN l j = 98 ∨ cN l j = 116) → cT l j ≠ ⟨#[]⟩ → ∃ k, k < l.length ∧ cN l k = 58 ∧ cT l k = cT l j
  lab : LabAt wr b l.length (cN l) (cT l)
  jat : JAt wr gj l.length J
  turned : Turned (fun k => k = gj) w wr
  big : w.heap.size ≤ b
theorem row_elem {l : List CM} {A : Option Addr} {gj : Nat} {w wr : World} (hr : RawOff (fun k => k = gj) w A (cmV l)) (ht : Turned (fun k => k = gj) w wr) {m : Nat} {c : CM} (hc : l[m]? = some c) : ∃ g o, A = some ⟨g, o, none⟩ ∧ g < wr.heap.size ∧ wr.rangeAt g (o + m * 42) c.cells := by
  obtain ⟨g, o, e, _, hr⟩ := off_elem CM.len (by omega) (hr.turned ht) hc
  exact ⟨g, o, e, World.block_lt_of_cell? _ _ (hr 0 _ rfl), hr⟩
set_option maxRecDepth 100000 in
set_option maxHeartbeats 8000000 in
theorem labels_is {l : List CM} {gj cj cl : Nat} {A : Option Addr} {w : World} {J0 : Nat → Int} (hj : JAt w gj l.length J0) (hr : RawOff (fun k => k = gj) w A (cmV l)) (hl : l.length ≤ 1048576) (ht : ∀ c ∈ l, c.text.size ≤ 1048576) :
    Calls Try.prog 19 #[.slice (some ⟨gj, 0, none⟩) l.length cj, .slice A l.length cl] w (LBAns (cN l) (cT l) l.length gj J0 w) := by
  have HG := Lib.hid (lt_of_some hj)
  have HR := Lib.hid hr
  have HL := Lib.hid hl
  have HT := Lib.hid ht
  have HJ0 := Lib.hid hj
  have HS := Lib.hid (show L1 l gj w.heap.size J0 w (w.alloc (.map #[] 0)) 0 from ⟨Nat.zero_le _, fun i hi => absurd hi (Nat.not_lt_zero i), LabAt.made w _ _, bW w _, Nat.le_refl _⟩)
  have hmk : (Instr.makeMap 70 none).run Try.prog w = .ok (.map (some w.heap.size)) (w.alloc (.map #[] 0)) := rfl
  clear hj hr hl ht
  unfold LBAns
  go_enter Try.func19, Try.ntmps19
  go_wp2_with fail
  obtain ⟨b, hb⟩ : ∃ b, b = w.heap.size := ⟨_, rfl⟩
  rw [← hb] at HS ⊢
  obtain ⟨w0, hw0⟩ : ∃ w0, w0 = w.alloc (.map #[] 0) := ⟨_, rfl⟩
  rw [← hw0] at HS ⊢
  clear hmk hw0 hb
  go_loopw [6, 7, 8, 9, 17] (fun _ _ _ _ v wz => ∃ m : Nat, v = .int .i64 (m : Int) ∧ Hid (L1 l gj b J0 w wz m)) (fun _ _ _ _ v _ => l.length + 1 - (intOf v).toNat)
  case atStart => exact ⟨0, rfl, HS⟩
  case round =>
    obtain ⟨m, rfl, HJ⟩ := hrel
    have hle := HJ.out.le
    by_cases hm : m < l.length
    case neg =>
      obtain rfl : m = l.length := by omega
      have hli : ¬ ((l.length : Int) < (l.length : Int)) := by omega
      have hd : decide ((l.length : Int) < (l.length : Int)) = false := decide_eq_false hli
      have hdn : decide (l.length < l.length) = false := decide_eq_false hm
      have HS2 := Lib.hid (show L2 l gj b J0 w wr 0 J0 from ⟨Nat.zero_le _, JL.zero _ _ _ _, fun j hj => absurd hj (Nat.not_lt_zero j), HJ.out.lab, HJ0.out.stays HJ.out.bel, Turned.of_below HJ.out.bel, HJ.out.big⟩)
      have HD := Lib.hid HJ.out.dis
      clear hle hm HJ HS
      go_wp2_with fail
      go_loopw [10, 11, 12, 13, 41] (fun _ _ _ _ v wz => ∃ (m : Nat) (J : Nat → Int), v = .int .i64 (m : Int) ∧ Hid (L2 l gj b J0 w wz m J)) (fun _ _ _ _ v _ => l.length + 1 - (intOf v).toNat)
      case atStart => exact ⟨0, J0, rfl, HS2⟩
      case round =>
        clear HS2
        obtain ⟨m, J, rfl, HJ⟩ := hrel
        rename_i wr
        have hle := HJ.out.le
        by_cases hm : m < l.length
        case neg =>
          have hd : decide ((m : Int) < (l.length : Int)) = false := decide_eq_false (by omega)
          have hdn : decide (m < l.length) = false := decide_eq_false hm
          have hll : (l.length : Int) ≤ (m : Int) := by omega
          have HE := Lib.hid (show LB (cN l) (cT l) l.length none from .ok HD.out (fun j hj => HJ.out.found j (by omega)))
          have HJL := Lib.hid (show JL (cN l) (cT l) l.length l.length J0 J by have := HJ.out.jl; rwa [show m = l.length by omega] at this)
          clear hle hm
          go_wp2_with fail
          go_ret
          exact ⟨none, J, HE.out, rfl, HJ.out.turned, HJ.out.jat, fun _ => HJL.out⟩
        obtain ⟨c, hc⟩ : ∃ c, l[m]? = some c := ⟨l[m], by simp [hm]⟩
        obtain ⟨g, o, rfl, hgl, hcells⟩ := row_elem HR.out HJ.out.turned hc
        obtain ⟨j1, j2⟩ := HJ.out.jat.cell hm
        have hli : (m : Int) < (l.length : Int) := by omega
        have hd : decide ((m : Int) < (l.length : Int)) = true := decide_eq_true hli
        have hdn : decide (m < l.length) = true := decide_eq_true hm
        have hml : m ≤ 1048576 := by have := HL.out; omega
        have hadd : IntKind.i64.wrap ((m : Int) + 1) = ((m + 1 : Nat) : Int) := by rw [IntWalk.i64_in _ (by omega)]; omega
        obtain ⟨m1, hm1⟩ : ∃ m1, m1 = m + 1 := ⟨_, rfl⟩
        rw [← hm1] at hadd
        have HM := Lib.hid hm1
        have HC := Lib.hid hc
        have HCE := Lib.hid hcells
        have HLT := Lib.hid hm
        have HML := Lib.hid hml
        have HJC := Lib.hid (And.intro j1 j2)
        clear hle hm hm1 hc hcells j1 j2
        go_wp2_with (first | (refine wpList_load_cmd rfl (.tmp 44) rfl rfl HCE.out ?_) | (refine wpList_alloc_cmd rfl rfl ?_; intro Z hZ; have HZ := Lib.hid hZ; clear hZ) | (refine wpList_box_cmd rfl (.tmp 11) (.tmp 45) rfl rfl rfl HZ.out ?_))
        intro W hW hbW hsW
        obtain ⟨kN, kT, _, _⟩ := box_cmd hW
        have HLW := Lib.hid (show LabAt W b l.length (cN l) (cT l) from HJ.out.lab.stays (Turned.of_below (S := fun _ => False) hbW) (fun h => h))
        have HBW := Lib.hid (show Turned (fun k => k = gj) w W from HJ.out.turned.trans (Turned.of_below (S := fun _ => False) hbW) (fun i _ h => h.elim))
        have HJW := Lib.hid (show JAt W gj l.length J from HJ.out.jat.stays hbW)
        obtain ⟨j1, j2⟩ := HJW.out.cell HLT.out
        have HGP := Lib.hid (show gj < wr.heap.size from lt_of_some HJ.out.jat)
        obtain ⟨p, hp⟩ : ∃ p, p = wr.heap.size := ⟨_, rfl⟩
        rw [← hp] at kN kT hsW HGP ⊢
        clear hW hbW hp
        have hgp := HGP.out
        have hsz := HT.out c (List.mem_of_getElem? HC.out)
        by_cases hbt : c.name = 98 ∨ c.name = 116
        case neg =>
          have n98 : ¬ c.name = 98 := fun h => hbt (.inl h)
          have n116 : ¬ c.name = 116 := fun h => hbt (.inr h)
          have b98 : (c.name != 98) = true := by simp [n98]
          have b116 : (c.name != 116) = true := by simp [n116]
          have g98 : ((c.name : Int) == 98) = false := by rw [beq_eq_false_iff_ne]; exact fun h => hbt (.inl h)
          have g116 : ((c.name : Int) == 116) = false := by rw [beq_eq_false_iff_ne]; exact fun h => hbt (.inr h)
          have HN := Lib.hid (show L2 l gj b J0 w W m1 J by
            rw [HM.out]
            rw [← cN_at HC.out] at hbt
            exact ⟨HLT.out, HJ.out.jl.skip hbt, fun j hj h1 h2 => by
              rcases Nat.lt_or_ge j m with h3 | h3
              · exact HJ.out.found j h3 h1 h2
              · obtain rfl : j = m := by omega
                exact absurd h1 hbt, HLW.out, HJW.out, HBW.out, HJ.out.big⟩)
          clear hbt
          go_wp2_with fail
          go_roundw
          case rel => exact ⟨m1, J, rfl, HN⟩
          case measure => have := HM.out; have := HLT.out; simp [intOf]; omega
        case pos =>
        have HBT := Lib.hid (show cN l m = 98 ∨ cN l m = 116 by rw [cN_at HC.out]; exact hbt)
        have HCT := Lib.hid (cT_at HC.out)
        obtain ⟨WS, hWS⟩ : ∃ WS, WS = W.setCell ⟨gj, m, none⟩ (.int .i64 (l.length : Int)) := ⟨_, rfl⟩
        have kT' : WS.cell? ⟨p, 25, none⟩ = some (.string c.text) := by
          rw [hWS, World.cell?_of_block (heap_setCell_other W _ p _ (by show p ≠ gj; omega))]
          exact kT
        have HJS := Lib.hid (show JAt WS gj l.length (fun i => if i = m then (l.length : Int) else J i) by rw [hWS]; exact HJW.out.put m _)
        have HTS := Lib.hid (show Turned (fun k => k = gj) w WS by rw [hWS]; exact turned_set HBW.out _ _ rfl)
        have HLS := Lib.hid (show LabAt WS b l.length (cN l) (cT l) from HLW.out.stays (S := fun k => k = gj) (by rw [hWS]; exact turned_set (Turned.refl _ W) _ _ rfl) (fun e => by have := HJ.out.big; have := HG.out; omega))
        obtain ⟨q1, q2⟩ := HJS.out.cell HLT.out
        rw [if_pos rfl] at q1
        have hWS2 := hWS.symm
        clear hWS
        rcases hbt with hbt | hbt
        · have g98 : ((c.name : Int) == 98) = true := by rw [hbt]; rfl
          have b98 : (c.name != 98) = false := by rw [hbt]; rfl
          have n98 : (¬ c.name = 98) = False := by rw [hbt]; simp
          clear hbt
          have HCE2 := Lib.hid (And.intro HCT.out HBT.out)
          by_cases he : c.text = ⟨#[]⟩
          · have ge : c.text.toList.isEmpty = true := by rw [he, ByteArray.toList_eq]; rfl
            have HN := Lib.hid (show L2 l gj b J0 w WS m1 (fun i => if i = m then (l.length : Int) else J i) by
              rw [HM.out]
              exact ⟨HLT.out, HJ.out.jl.put HBT.out _ ⟨fun _ => rfl, fun h => absurd (HCT.out.trans he) h⟩, fun j hj h1 h2 => by
                rcases Nat.lt_or_ge j m with h3 | h3
                · exact HJ.out.found j h3 h1 h2
                · obtain rfl : j = m := by omega
                  exact absurd (HCT.out.trans he) h2, HLS.out, HJS.out, HTS.out, HJ.out.big⟩)
            rw [← hWS2] at HN kT'
            clear he hWS2 q1 q2
            go_wp2_with fail
            go_roundw
            case rel => exact ⟨m1, _, rfl, HN⟩
            case measure => have := HM.out; have := HLT.out; simp [intOf]; omega
          · have ge : c.text.toList.isEmpty = false := by
              cases hx : c.text.toList with
              | nil =>
                exfalso
                apply he
                have : c.text.data.toList = [] := by rw [← ByteArray.toList_eq]; exact hx
                rw [← txt_of c.text, this]
                rfl
              | cons => rfl
            have HNE := Lib.hid (show cT l m ≠ ⟨#[]⟩ by rw [HCT.out]; exact he)
            clear he
            rcases HLS.out.look hsz with ⟨hno, hlk⟩ | ⟨k, hk, hk58, hkt, hlk⟩
            · have HE := Lib.hid (show LB (cN l) (cT l) l.length (some m) from .gone m HD.out HLT.out HBT.out HNE.out (fun k hk h => by rw [HCT.out]; exact hno k hk h) (fun j hj h1 h2 => HJ.out.found j hj h1 h2))
              rw [← hWS2] at HTS HJS hlk kT'
              clear hno hsz hWS2 q1 q2
              go_wp2_with fail
              go_ret
              exact ⟨some m, _, HE.out, rfl, HTS.out, HJS.out, fun h => by cases h⟩
            · obtain ⟨W2, hW2⟩ : ∃ W2, W2 = WS.setCell ⟨gj, m, none⟩ (.int .i64 (k : Int)) := ⟨_, rfl⟩
              have HN := Lib.hid (show L2 l gj b J0 w W2 m1 (fun i => if i = m then (k : Int) else J i) by
                rw [HM.out, hW2]
                refine ⟨HLT.out, HJ.out.jl.put HBT.out _ ⟨fun h => absurd h HNE.out, fun _ => ⟨k, hk, hk58, by rw [HCT.out]; exact hkt, rfl⟩⟩, fun j hj h1 h2 => ?_, HLS.out.stays (S := fun k => k = gj) (turned_set (Turned.refl _ WS) _ _ rfl) (fun e => by have := HJ.out.big; have := HG.out; omega), ?_, turned_set HTS.out _ _ rfl, HJ.out.big⟩
                · rcases Nat.lt_or_ge j m with h3 | h3
                  · exact HJ.out.found j h3 h1 h2
                  · obtain rfl : j = m := by omega
                    exact ⟨k, hk, hk58, by rw [HCT.out]; exact hkt⟩
                · have h := HJS.out.put m (k : Int)
                  have e : (fun x => if x = m then (k : Int) else (fun i => if i = m then (l.length : Int) else J i) x) = (fun i => if i = m then (k : Int) else J i) := by
                    funext x
                    by_cases hx : x = m
                    · simp only [if_pos hx]
                    · simp only [if_neg hx]
                  rw [e] at h
                  exact h)
              have hW3 := hW2.symm
              rw [← hWS2] at hlk kT' q1 q2 hW3
              clear hk hk58 hkt hsz hWS2 hW2
              go_wp2_with fail
              go_roundw
              case rel => exact ⟨m1, _, rfl, HN⟩
              case measure => have := HM.out; have := HLT.out; simp [intOf]; omega
        · have g98 : ((c.name : Int) == 98) = false := by rw [hbt]; rfl
          have b98 : (c.name != 98) = true := by rw [hbt]; rfl
          have n98 : ¬ c.name = 98 := by rw [hbt]; omega
          have g116 : ((c.name : Int) == 116) = true := by rw [hbt]; rfl
          have b116 : (c.name != 116) = false := by rw [hbt]; rfl
          clear hbt
          have HCE2 := Lib.hid (And.intro HCT.out HBT.out)
          by_cases he : c.text = ⟨#[]⟩
          · have ge : c.text.toList.isEmpty = true := by rw [he, ByteArray.toList_eq]; rfl
            have HN := Lib.hid (show L2 l gj b J0 w WS m1 (fun i => if i = m then (l.length : Int) else J i) by
              rw [HM.out]
              exact ⟨HLT.out, HJ.out.jl.put HBT.out _ ⟨fun _ => rfl, fun h => absurd (HCT.out.trans he) h⟩, fun j hj h1 h2 => by
                rcases Nat.lt_or_ge j m with h3 | h3
                · exact HJ.out.found j h3 h1 h2
                · obtain rfl : j = m := by omega
                  exact absurd (HCT.out.trans he) h2, HLS.out, HJS.out, HTS.out, HJ.out.big⟩)
            rw [← hWS2] at HN kT'
            clear he hWS2 q1 q2
            go_wp2_with fail
            go_roundw
            case rel => exact ⟨m1, _, rfl, HN⟩
            case measure => have := HM.out; have := HLT.out; simp [intOf]; omega
          · have ge : c.text.toList.isEmpty = false := by
              cases hx : c.text.toList with
              | nil =>
                exfalso
                apply he
                have : c.text.data.toList = [] := by rw [← ByteArray.toList_eq]; exact hx
                rw [← txt_of c.text, this]
                rfl
              | cons => rfl
            have HNE := Lib.hid (show cT l m ≠ ⟨#[]⟩ by rw [HCT.out]; exact he)
            clear he
            rcases HLS.out.look hsz with ⟨hno, hlk⟩ | ⟨k, hk, hk58, hkt, hlk⟩
            · have HE := Lib.hid (show LB (cN l) (cT l) l.length (some m) from .gone m HD.out HLT.out HBT.out HNE.out (fun k hk h => by rw [HCT.out]; exact hno k hk h) (fun j hj h1 h2 => HJ.out.found j hj h1 h2))
              rw [← hWS2] at HTS HJS hlk kT'
              clear hno hsz hWS2 q1 q2
              go_wp2_with fail
              go_ret
              exact ⟨some m, _, HE.out, rfl, HTS.out, HJS.out, fun h => by cases h⟩
            · obtain ⟨W2, hW2⟩ : ∃ W2, W2 = WS.setCell ⟨gj, m, none⟩ (.int .i64 (k : Int)) := ⟨_, rfl⟩
              have HN := Lib.hid (show L2 l gj b J0 w W2 m1 (fun i => if i = m then (k : Int) else J i) by
                rw [HM.out, hW2]
                refine ⟨HLT.out, HJ.out.jl.put HBT.out _ ⟨fun h => absurd h HNE.out, fun _ => ⟨k, hk, hk58, by rw [HCT.out]; exact hkt, rfl⟩⟩, fun j hj h1 h2 => ?_, HLS.out.stays (S := fun k => k = gj) (turned_set (Turned.refl _ WS) _ _ rfl) (fun e => by have := HJ.out.big; have := HG.out; omega), ?_, turned_set HTS.out _ _ rfl, HJ.out.big⟩
                · rcases Nat.lt_or_ge j m with h3 | h3
                  · exact HJ.out.found j h3 h1 h2
                  · obtain rfl : j = m := by omega
                    exact ⟨k, hk, hk58, by rw [HCT.out]; exact hkt⟩
                · have h := HJS.out.put m (k : Int)
                  have e : (fun x => if x = m then (k : Int) else (fun i => if i = m then (l.length : Int) else J i) x) = (fun i => if i = m then (k : Int) else J i) := by
                    funext x
                    by_cases hx : x = m
                    · simp only [if_pos hx]
                    · simp only [if_neg hx]
                  rw [e] at h
                  exact h)
              have hW3 := hW2.symm
              rw [← hWS2] at hlk kT' q1 q2 hW3
              clear hk hk58 hkt hsz hWS2 hW2
              go_wp2_with fail
              go_roundw
              case rel => exact ⟨m1, _, rfl, HN⟩
              case measure => have := HM.out; have := HLT.out; simp [intOf]; omega
    obtain ⟨c, hc⟩ : ∃ c, l[m]? = some c := ⟨l[m], by simp [hm]⟩
    obtain ⟨g, o, rfl, hgl, hcells⟩ := row_elem HR.out (Turned.of_below HJ.out.bel) hc
    have hli : (m : Int) < (l.length : Int) := by omega
    have hd : decide ((m : Int) < (l.length : Int)) = true := decide_eq_true hli
    have hdn : decide (m < l.length) = true := decide_eq_true hm
    have hml : m ≤ 1048576 := by have := HL.out; omega
    have hadd : IntKind.i64.wrap ((m : Int) + 1) = ((m + 1 : Nat) : Int) := by rw [IntWalk.i64_in _ (by omega)]; omega
    obtain ⟨m1, hm1⟩ : ∃ m1, m1 = m + 1 := ⟨_, rfl⟩
    rw [← hm1] at hadd
    have HM := Lib.hid hm1
    have HC := Lib.hid hc
    have HCE := Lib.hid hcells
    have HLT := Lib.hid hm
    have HML := Lib.hid hml
    clear hle hm hm1 hc hcells
    go_wp2_with (first | (refine wpList_load_cmd rfl (.tmp 20) rfl rfl HCE.out ?_) | (refine wpList_alloc_cmd rfl rfl ?_; intro Z hZ; have HZ := Lib.hid hZ; clear hZ) | (refine wpList_box_cmd rfl (.tmp 7) (.tmp 21) rfl rfl rfl HZ.out ?_))
    intro W hW hbW hsW
    obtain ⟨kN, kT, _, _⟩ := box_cmd hW
    have HLW := Lib.hid (show LabAt W b m (cN l) (cT l) from HJ.out.lab.stays (Turned.of_below (S := fun _ => False) hbW) (fun h => h))
    have HBW := Lib.hid (HJ.out.bel.trans (hbW.mono HJ.out.bel.size))
    obtain ⟨p, hp⟩ : ∃ p, p = wr.heap.size := ⟨_, rfl⟩
    rw [← hp] at kN kT hsW ⊢
    clear hW hbW hp
    by_cases h58 : c.name = 58
    case neg =>
      have g58 : ((c.name : Int) == 58) = false := by rw [beq_eq_false_iff_ne]; exact h58
      have HN := Lib.hid (show L1 l gj b J0 w W m1 by
        rw [HM.out]
        have h := by rw [← cN_at HC.out] at h58; exact h58
        exact ⟨HLT.out, HJ.out.dis.skip h, HLW.out.skip h, HBW.out, HJ.out.big⟩)
      clear h58
      go_wp2_with fail
      go_roundw
      case rel => exact ⟨m1, rfl, HN⟩
      case measure => have := HM.out; have := HLT.out; simp [intOf]; omega
    case pos =>
    have g58 : ((c.name : Int) == 58) = true := by rw [h58]; rfl
    have HN58 := Lib.hid (show cN l m = 58 by rw [cN_at HC.out]; exact h58)
    have hsz := HT.out c (List.mem_of_getElem? HC.out)
    have hct := cT_at HC.out
    clear h58
    rcases HLW.out.look hsz with ⟨hno, hlk⟩ | ⟨k, hk, hk58, hkt, hlk⟩
    · obtain ⟨w', hput, hlab, htu⟩ := HLW.out.put HN58.out (fun k hk h => by rw [hct]; exact hno k hk h) (by rw [hct]; exact hsz) HML.out
      rw [hct] at hput
      have HN := Lib.hid (show L1 l gj b J0 w w' m1 by
        rw [HM.out]
        exact ⟨HLT.out, HJ.out.dis.put (fun k hk h => by rw [hct]; exact hno k hk h), hlab, HBW.out.trans (htu.below HBW.out.size (fun k hk => by have := HJ.out.big; omega)), HJ.out.big⟩)
      clear hno hlab htu hct hsz
      go_wp2_with fail
      go_roundw
      case rel => exact ⟨m1, rfl, HN⟩
      case measure => have := HM.out; have := HLT.out; simp [intOf]; omega
    · have HE := Lib.hid (show LB (cN l) (cT l) l.length (some m) from .twice m k HLT.out HN58.out hk hk58 (by rw [hct]; exact hkt) HJ.out.dis)
      have HF := Lib.hid (And.intro (Turned.of_below (S := fun k => k = gj) HBW.out) (HJ0.out.stays HBW.out))
      clear hk hk58 hkt hct hsz
      go_wp2_with fail
      go_ret
      exact ⟨some m, J0, HE.out, rfl, HF.out.1, HF.out.2, fun h => by cases h⟩
end Go.Proofs.Ythlkmlphbepnpaa
