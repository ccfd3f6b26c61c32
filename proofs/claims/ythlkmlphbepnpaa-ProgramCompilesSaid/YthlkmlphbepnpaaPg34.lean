/-
  The document's Files: the paths that commands write to, rising, each once; and two rows of texts that rise and hold the same are one. Condition: fewer than a million commands.
-/
import Derived.Test.YthlkmlphbepnpaaPg33
import Derived.Test.YthlkmlphbepnpaaPg23
import Derived.Test.YthlkmlphbepnpaaPg22
namespace Go.Proofs.Ythlkmlphbepnpaa
open Go.RowKit Go.Deep Go.Sort

theorem up_one : ∀ {F G : List Bs}, F.Pairwise (· < ·) → G.Pairwise (· < ·) → (∀ x, x ∈ F ↔ x ∈ G) → F = G
  | [], [], _, _, _ => rfl
  | [], b :: G, _, _, h => by
    have := (h b).2 (List.mem_cons_self ..)
    cases this
  | a :: F, [], _, _, h => by
    have := (h a).1 (List.mem_cons_self ..)
    cases this
  | a :: F, b :: G, hF, hG, h => by
    obtain ⟨f1, f2⟩ := List.pairwise_cons.1 hF
    obtain ⟨g1, g2⟩ := List.pairwise_cons.1 hG
    have hab : a = b := by
      rcases List.mem_cons.1 ((h a).1 (List.mem_cons_self ..)) with e | ha
      · exact e
      · rcases List.mem_cons.1 ((h b).2 (List.mem_cons_self ..)) with e | hb
        · exact e.symm
        · exact absurd (List.lt_trans (g1 a ha) (f1 b hb)) (List.lt_irrefl b)
    subst hab
    rw [up_one f2 g2 fun x => ⟨fun hx => by
      rcases List.mem_cons.1 ((h x).1 (List.mem_cons_of_mem _ hx)) with e | h1
      · rw [e] at hx
        exact absurd (f1 a hx) (List.lt_irrefl a)
      · exact h1, fun hx => by
      rcases List.mem_cons.1 ((h x).2 (List.mem_cons_of_mem _ hx)) with e | h1
      · rw [e] at hx
        exact absurd (g1 a hx) (List.lt_irrefl a)
      · exact h1⟩]
/-- What holds where a round begins. -/
structure FdJ (cs : List CM) (w wr : World) (m : Nat) (A : Option Addr) (F : List Bs) : Prop where
  le : m ≤ cs.length
  row : RawAt wr A (sV F)
  up : F.Pairwise (· < ·)
  len : F.length ≤ m
  mem : ∀ x, x ∈ F ↔ x ∈ pathsF cs m
  bel : Below w.heap.size w wr
theorem FdJ.skip {cs : List CM} {w wr : World} {m : Nat} {A : Option Addr} {F : List Bs} (h : FdJ cs w wr m A F) {c : CM} (hc : cs[m]? = some c) (hp : pathOf c = none) : FdJ cs w wr (m + 1) A F :=
  ⟨(List.getElem?_eq_some_iff.1 hc).1, h.row, h.up, Nat.le_succ_of_le h.len, fun x => by rw [pathsF_succ hc, hp, List.append_nil]; exact h.mem x, h.bel⟩
theorem FdJ.put {cs : List CM} {w wr W : World} {m : Nat} {A A2 : Option Addr} {F F2 : List Bs} (h : FdJ cs w wr m A F) {c : CM} {p : Bs} (hc : cs[m]? = some c) (hp : pathOf c = some p) (hb : Below wr.heap.size wr W) (hr : RawAt W A2 (sV F2)) (hu : F2.Pairwise (· < ·)) (hl : F2.length ≤ F.length + 1) (hm : ∀ x, x ∈ F2 ↔ x ∈ F ∨ x = p) : FdJ cs w W (m + 1) A2 F2 :=
  ⟨(List.getElem?_eq_some_iff.1 hc).1, hr, hu, by have := h.len; omega, fun x => by
    rw [hm, h.mem, pathsF_succ hc, hp, List.mem_append]
    simp, h.bel.trans (hb.mono h.bel.size)⟩
theorem row_file {l : List CM} {A : Option Addr} {w : World} (hr : RawAt w A (cmV l)) {i : Nat} {c : CM} (hc : l[i]? = some c) : ∃ g o, A = some ⟨g, o, none⟩ ∧ w.cell? ⟨g, o + i * 42 + 1, none⟩ = some (.int .u8 c.name) ∧ w.cell? ⟨g, o + i * 42 + 25, none⟩ = some (.string c.text) ∧ w.cell? ⟨g, o + i * 42 + 41, none⟩ = some (.string c.file) := by
  obtain ⟨g, o, e, h⟩ := raw_elem CM.len (by omega) hr hc
  exact ⟨g, o, e, h 1 _ rfl, h 25 _ rfl, h 41 _ rfl⟩
theorem with_any {L : List Bs} (t : ByteArray) {cl : Nat} {A : Option Addr} {w : World} (hr : RawAt w A (sV L)) (hl : L.length ≤ 1048576) (hp : L.Pairwise (· < ·)) :
    Calls Try.prog 27 #[.slice A L.length cl, .string t] w (WithAns L t.data.toList w) := by
  have h := with_is (b := t.data.toList) (cl := cl) hr hl hp
  rwa [txt_of] at h
set_option maxRecDepth 100000 in
set_option maxHeartbeats 4000000 in
theorem filesd_is {cs : List CM} {cl : Nat} {A : Option Addr} {w : World} (hr : RawAt w A (cmV cs)) (hl : cs.length ≤ 1048576) : Calls Try.prog 15 #[.slice A cs.length cl] w (FilesAns cs w) := by
  unfold FilesAns
  have HR := Lib.hid (show ∀ W, Below w.heap.size w W → RawAt W A (cmV cs) from fun W hW => hr.below hW)
  have HL := Lib.hid hl
  have HS := Lib.hid (show FdJ cs w w 0 none [] from ⟨Nat.zero_le _, .inl rfl, List.Pairwise.nil, Nat.le_refl _, fun x => by simp [pathsF], Below.refl _ _⟩)
  clear hr hl
  go_enter Try.func15, Try.ntmps15
  go_wp2_with fail
  go_loopw [3, 4] (fun v iv wz => ∃ (m : Nat) (A2 : Option Addr) (c2 : Nat) (F : List Bs), v = .slice A2 F.length c2 ∧ iv = .int .i64 (m : Int) ∧ Hid (FdJ cs w wz m A2 F)) (fun _ iv _ => cs.length + 1 - (intOf iv).toNat)
  case atStart => exact ⟨0, none, 0, [], rfl, rfl, HS⟩
  case round =>
    clear HS
    obtain ⟨m, A2, c2, F, rfl, rfl, HJ⟩ := hrel
    have hle := HJ.out.le
    by_cases hm : m < cs.length
    case neg =>
      have hd : decide ((m : Int) < (cs.length : Int)) = false := decide_eq_false (by omega)
      have hdn : decide (m < cs.length) = false := decide_eq_false hm
      have hll : (cs.length : Int) ≤ (m : Int) := by omega
      have HME := Lib.hid (show m = cs.length by omega)
      clear hle hm
      go_wp2_with fail
      go_ret
      exact ⟨HJ.out.bel, A2, c2, F, rfl, HJ.out.row, HJ.out.up, by rw [← HME.out]; exact HJ.out.len, by rw [← HME.out]; exact HJ.out.mem⟩
    obtain ⟨c, hc⟩ : ∃ c, cs[m]? = some c := ⟨cs[m], by simp [hm]⟩
    obtain ⟨g, o, rfl, kN, kT, kF⟩ := row_file (HR.out _ HJ.out.bel) hc
    have hli : (m : Int) < (cs.length : Int) := by omega
    have hd : decide ((m : Int) < (cs.length : Int)) = true := decide_eq_true hli
    have hdn : decide (m < cs.length) = true := decide_eq_true hm
    have hml : m ≤ 1048576 := by have := HL.out; omega
    have hadd : IntKind.i64.wrap ((m : Int) + 1) = ((m + 1 : Nat) : Int) := by rw [IntWalk.i64_in _ (by omega)]; omega
    have HFL := Lib.hid (show F.length ≤ 1048576 by have := HJ.out.len; omega)
    obtain ⟨m1, hm1⟩ : ∃ m1, m1 = m + 1 := ⟨_, rfl⟩
    rw [← hm1] at hadd
    have HM := Lib.hid (And.intro hm1 hm)
    have HC := Lib.hid hc
    clear hle hm hml hm1 hc
    by_cases hw : c.name = 119
    case pos =>
      have g1 : (c.name == 119) = true := by rw [hw]; rfl
      have g2 : (c.name == 115) = false := by rw [hw]; rfl
      have n2 : ¬ c.name = 115 := by omega
      have HPO := Lib.hid (show pathOf c = some c.text.data.toList by unfold pathOf; rw [if_pos hw])
      have HWI := Lib.hid (with_any c.text (cl := c2) HJ.out.row HFL.out HJ.out.up)
      unfold WithAns at HWI
      clear hw
      go_wp2_with fail
      go_at_call 27
      with_reducible refine HWI.out.mono ?_
      rintro e W ⟨hbW, A3, c3, F3, rfl, hraw, hup, hlen, hmem⟩
      have HN := Lib.hid (show FdJ cs w W m1 A3 F3 by rw [HM.out.1]; exact HJ.out.put HC.out HPO.out hbW hraw hup hlen hmem)
      obtain ⟨g5, o5, e5, kN', kT', kF'⟩ := row_file (HR.out _ HN.out.bel) HC.out
      injection e5 with e5
      injection e5 with e51 e52
      subst e51
      subst e52
      clear hbW hraw hup hlen hmem kN kT kF HWI
      go_wp2_with fail
      go_roundw
      case rel => exact ⟨m1, A3, c3, F3, rfl, rfl, HN⟩
      case measure => have := HM.out; simp [intOf]; omega
    by_cases hs : c.name = 115
    case neg =>
      have g1 : (c.name == 119) = false := by rw [beq_eq_false_iff_ne]; exact hw
      have g2 : (c.name == 115) = false := by rw [beq_eq_false_iff_ne]; exact hs
      have n2 : ¬ c.name = 115 := hs
      have HN := Lib.hid (show FdJ cs w wr m1 A2 F by rw [HM.out.1]; exact HJ.out.skip HC.out (by unfold pathOf; rw [if_neg hw, if_neg (fun h => hs h.1)]))
      clear hw hs
      go_wp2_with fail
      go_roundw
      case rel => exact ⟨m1, A2, c2, F, rfl, rfl, HN⟩
      case measure => have := HM.out; simp [intOf]; omega
    have g1 : (c.name == 119) = false := by rw [beq_eq_false_iff_ne]; exact hw
    have g2 : (c.name == 115) = true := by rw [hs]; rfl
    by_cases he : c.file = ⟨#[]⟩
    · have ge : c.file.toList.isEmpty = true := by rw [he, ByteArray.toList_eq]; rfl
      have HN := Lib.hid (show FdJ cs w wr m1 A2 F by rw [HM.out.1]; exact HJ.out.skip HC.out (by unfold pathOf; rw [if_neg hw, if_neg (fun h => h.2 he)]))
      clear hw hs he
      go_wp2_with fail
      go_roundw
      case rel => exact ⟨m1, A2, c2, F, rfl, rfl, HN⟩
      case measure => have := HM.out; simp [intOf]; omega
    · have ge := file_full he
      have HPO := Lib.hid (show pathOf c = some c.file.data.toList by unfold pathOf; rw [if_neg hw, if_pos ⟨hs, he⟩])
      have HWI := Lib.hid (with_any c.file (cl := c2) HJ.out.row HFL.out HJ.out.up)
      unfold WithAns at HWI
      clear hw hs he
      go_wp2_with fail
      go_at_call 27
      with_reducible refine HWI.out.mono ?_
      rintro e W ⟨hbW, A3, c3, F3, rfl, hraw, hup, hlen, hmem⟩
      have HN := Lib.hid (show FdJ cs w W m1 A3 F3 by rw [HM.out.1]; exact HJ.out.put HC.out HPO.out hbW hraw hup hlen hmem)
      clear hbW hraw hup hlen hmem kN kT kF HWI
      go_wp2_with fail
      go_roundw
      case rel => exact ⟨m1, A3, c3, F3, rfl, rfl, HN⟩
      case measure => have := HM.out; simp [intOf]; omega
end Go.Proofs.Ythlkmlphbepnpaa
