/-
  The document's answer's Drop, and Same of two lists that are one. Condition: no list is longer than 2^40 files.
-/
import Derived.Test.YtcjbhjbjkfgphaaTref1
namespace Go.Proofs.Ytcjbhjbjkfgphaa
open Go.RowKit Go.Deep

theorem FilesAt.new (w : World) (f : FileM) : FilesAt (w.alloc (.cells #[.string f.path, .int .i64 f.ver, .string f.text] 49)) (some ⟨w.heap.size, 0, none⟩) [f] := by
  intro i x hx
  have hi : i = 0 := by have := (List.getElem?_eq_some_iff.1 hx).1; simp at this; omega
  subst hi
  simp at hx
  subst hx
  refine ⟨_, 0, rfl, fun j v hv => ?_⟩
  rw [cell_of_row _ _ _ _ _ _ (heap_alloc_new w _)]
  simpa [FileM.cells] using hv
theorem dropF_take_succ {fs : List FileM} {p : ByteArray} {i : Nat} {f : FileM} (h : fs[i]? = some f) : dropF (fs.take (i + 1)) p = dropF (fs.take i) p ++ if f.path = p then [] else [f] := by
  unfold dropF
  rw [List.take_add_one, h, List.filter_append]
  by_cases hp : f.path = p <;> simp [hp]
theorem dropF_length_le (fs : List FileM) (p : ByteArray) : (dropF fs p).length ≤ fs.length := List.length_filter_le _ _
def DropAns (fs : List FileM) (p : ByteArray) (w : World) (e : Ending) (w' : World) : Prop := ∃ v, e = .returned (.tuple #[v, .int .i64 0]) ∧ FilesOwn w' w.heap.size v (dropF fs p) ∧ Below w.heap.size w w'

set_option maxHeartbeats 1000000 in
theorem ref_drop_none (fs : List FileM) (A : Option Addr) (n c : Nat) (p : ByteArray) (w : World) (hat : FilesAt w A fs) (hn : n = fs.length) (hl : fs.length ≤ 1099511627776) (hno : findF fs p = none) :
    Calls Try.prog 13 #[.slice A n c, .string p] w fun e w' => e = .returned (.tuple #[.slice none 0 0, .int .i64 72]) ∧ w = w' := by
  have hf := ref_find fs A n c p w hat hn hl
  rw [show findI fs p = -1 by unfold findI; rw [hno]] at hf
  have HF := Lib.hid hf
  clear hf hat hn hl hno
  go_enter Try.func13, Try.ntmps13
  go_wp2_with fail
  go_at_call 33
  (with_reducible refine HF.out.mono ?_)
  rintro e w1 ⟨rfl, rfl⟩
  go_wp2_with fail
  go_ret2
  exact ⟨rfl, rfl⟩

set_option maxRecDepth 100000 in
set_option maxHeartbeats 2000000 in
theorem ref_drop (fs : List FileM) (A : Option Addr) (n c : Nat) (p : ByteArray) (w : World) (hat : FilesAt w A fs) (hn : n = fs.length) (hl : fs.length ≤ 1099511627776) (hno : findF fs p ≠ none) :
    Calls Try.prog 13 #[.slice A n c, .string p] w (DropAns fs p w) := by
  obtain ⟨x, hx⟩ : ∃ x, findF fs p = some x := by
    cases h : findF fs p with
    | none => exact absurd h hno
    | some x => exact ⟨x, rfl⟩
  have hf := ref_find fs A n c p w hat hn hl
  rw [show findI fs p = (x : Int) by unfold findI; rw [hx]] at hf
  have HF := Lib.hid hf
  have HAT := Lib.hid hat
  have HNN := Lib.hid hn
  have hn40 : n ≤ 1099511627776 := by omega
  have HN40 := Lib.hid hn40
  have g0 : decide ((x : Int) < 0) = false := decide_eq_false (by omega)
  clear hf hat hn hl hno hx
  go_enter Try.func13, Try.ntmps13
  go_wp2_with fail
  go_at_call 33
  (with_reducible refine HF.out.mono ?_)
  rintro e w1 ⟨rfl, rfl⟩
  go_wp2_with fail
  go_loopw [6, 7] (fun v iv wr => ∃ i : Nat, iv = .int .i64 (i : Int) ∧ i ≤ n ∧ FilesOwn wr w.heap.size v (dropF (fs.take i) p) ∧ Below w.heap.size w wr) (fun _ iv _ => n - (intOf iv).toNat)
  case atStart => exact ⟨0, rfl, Nat.zero_le _, by rw [List.take_zero]; exact FilesOwn.nil _ _, Below.refl _ _⟩
  case round =>
    obtain ⟨i, rfl, hi, hown, hb⟩ := hrel
    have HO := Lib.hid hown
    have HB := Lib.hid hb
    by_cases hlt : i < n
    · obtain ⟨f, hf⟩ : ∃ f, fs[i]? = some f := ⟨fs[i]'(by have := HNN.out; omega), List.getElem?_eq_getElem _⟩
      obtain ⟨g, o, rfl, hr⟩ := HAT.out i f hf
      have hg := World.block_lt_of_cell? w _ (hr 0 _ rfl)
      have kc : ∀ j u, f.cells[j]? = some u → wr.cell? ⟨g, o + i * 3 + j, none⟩ = some u := fun j u hu => (hb.cell (p := ⟨g, o + i * 3 + j, none⟩) hg).trans (hr j u hu)
      have k0 : wr.cell? ⟨g, o + i * 3, none⟩ = some (.string f.path) := kc 0 _ rfl
      have k1 : wr.cell? ⟨g, o + i * 3 + 1, none⟩ = some (.int .i64 f.ver) := kc 1 _ rfl
      have k2 : wr.cell? ⟨g, o + i * 3 + 2, none⟩ = some (.string f.text) := kc 2 _ rfl
      have hiI : (i : Int) < (n : Int) := by omega
      have hi0 : (0 : Int) ≤ (i : Int) := by omega
      have HS := Lib.hid (dropF_take_succ (p := p) hf)
      clear hown hb hf hr hg kc
      by_cases hp : f.path = p
      · have g1 : (f.path.toList == p.toList) = true := by rw [peq]; simp [hp]
        have HNX := Lib.hid (show dropF (fs.take (i + 1)) p = dropF (fs.take i) p by rw [HS.out, if_pos hp, List.append_nil])
        clear hp
        go_wp2_with fail
        go_roundw
        case rel => exact ⟨i + 1, by go_num, by omega, by rw [HNX.out]; exact HO.out, HB.out⟩
        case measure => simp [intOf]; omega
      · have g1 : (f.path.toList == p.toList) = false := by rw [peq]; simp [hp]
        have HNX := Lib.hid (show dropF (fs.take (i + 1)) p = dropF (fs.take i) p ++ [f] by rw [HS.out, if_neg hp])
        have hlen : (dropF (fs.take i) p).length + [f].length ≤ 1099511627776 := by
          have h1 := dropF_length_le (fs.take i) p
          rw [List.length_take] at h1
          simp only [List.length_cons, List.length_nil]
          omega
        have HLEN := Lib.hid hlen
        obtain ⟨o1, eo1⟩ : ∃ x, x = Obj.cells #[.string f.path, .int .i64 f.ver, .string f.text] 49 := ⟨_, rfl⟩
        have HO2 := Lib.hid (HO.out.below ((Below.refl wr.heap.size wr).alloc (Nat.le_refl _) (.cells #[.string f.path, .int .i64 f.ver, .string f.text] 49)))
        have HNEW := Lib.hid (FilesAt.new wr f)
        have HBS := Lib.hid (show w.heap.size ≤ (wr.alloc (.cells #[.string f.path, .int .i64 f.ver, .string f.text] 49)).heap.size by have := HB.out.size; simp; omega)
        have HBA := Lib.hid (HB.out.alloc HB.out.size (.cells #[.string f.path, .int .i64 f.ver, .string f.text] 49))
        clear hp hlen eo1
        go_wp2_with ((refine wpList_append_files 31 [f] HO2.out HNEW.out rfl rfl rfl Nat.zero_lt_one HLEN.out HBS.out ?_))
        intro v5 w5 ho5 ht5 _
        have HO5 := Lib.hid ho5
        have HB5 := Lib.hid (HBA.out.trans (ht5.below HBS.out (fun k hk => (HO2.out.lt k hk).1)))
        clear ho5 ht5
        go_wp2_with fail
        go_roundw
        case rel => exact ⟨i + 1, by go_num, by omega, by rw [HNX.out]; exact HO5.out, HB5.out⟩
        case measure => simp [intOf]; omega
    · have hie : i = n := by omega
      subst hie
      have hiI : ¬ (i : Int) < (i : Int) := by omega
      have HE := Lib.hid (show dropF (fs.take i) p = dropF fs p by rw [HNN.out, List.take_length])
      clear hown hb
      go_wp2_with fail
      go_ret2
      exact ⟨_, rfl, by rw [← HE.out]; exact HO.out, HB.out⟩

set_option maxRecDepth 100000 in
set_option maxHeartbeats 1000000 in
theorem ref_same (fs : List FileM) (A B : Option Addr) (n c d : Nat) (w : World) (ha : FilesAt w A fs) (hb : FilesAt w B fs) (hn : n = fs.length) (hl : fs.length ≤ 1099511627776) :
    Calls Try.prog 22 #[.slice A n c, .slice B n d] w fun e w' => e = .returned (.bool true) ∧ Below w.heap.size w w' := by
  have HA := Lib.hid ha
  have HB := Lib.hid hb
  have HNN := Lib.hid hn
  have hn40 : n ≤ 1099511627776 := by omega
  clear ha hb hn hl
  go_enter Try.func22, Try.ntmps22
  go_wp2_with fail
  go_loopw [5] (fun iv wr => ∃ i : Nat, iv = .int .i64 (i : Int) ∧ i ≤ n ∧ Below w.heap.size w wr) (fun iv _ => n - (intOf iv).toNat)
  case atStart => exact ⟨0, rfl, Nat.zero_le _, Below.refl _ _⟩
  case round =>
    obtain ⟨i, rfl, hi, hbw⟩ := hrel
    have HBW := Lib.hid hbw
    by_cases hlt : i < n
    · obtain ⟨f, hf⟩ : ∃ f, fs[i]? = some f := ⟨fs[i]'(by have := HNN.out; omega), List.getElem?_eq_getElem _⟩
      obtain ⟨g, o, rfl, hr⟩ := HA.out i f hf
      obtain ⟨g2, o2, rfl, hr2⟩ := HB.out i f hf
      have hg := World.block_lt_of_cell? w _ (hr 0 _ rfl)
      have hg2 := World.block_lt_of_cell? w _ (hr2 0 _ rfl)
      have kc : ∀ j u, f.cells[j]? = some u → wr.cell? ⟨g, o + i * 3 + j, none⟩ = some u := fun j u hu => (hbw.cell (p := ⟨g, o + i * 3 + j, none⟩) hg).trans (hr j u hu)
      have kd : ∀ j u, f.cells[j]? = some u → wr.cell? ⟨g2, o2 + i * 3 + j, none⟩ = some u := fun j u hu => (hbw.cell (p := ⟨g2, o2 + i * 3 + j, none⟩) hg2).trans (hr2 j u hu)
      have k0 : wr.cell? ⟨g, o + i * 3, none⟩ = some (.string f.path) := kc 0 _ rfl
      have k1 : wr.cell? ⟨g, o + i * 3 + 1, none⟩ = some (.int .i64 f.ver) := kc 1 _ rfl
      have k2 : wr.cell? ⟨g, o + i * 3 + 2, none⟩ = some (.string f.text) := kc 2 _ rfl
      have l0 : wr.cell? ⟨g2, o2 + i * 3, none⟩ = some (.string f.path) := kd 0 _ rfl
      have l1 : wr.cell? ⟨g2, o2 + i * 3 + 1, none⟩ = some (.int .i64 f.ver) := kd 1 _ rfl
      have l2 : wr.cell? ⟨g2, o2 + i * 3 + 2, none⟩ = some (.string f.text) := kd 2 _ rfl
      have hiI : (i : Int) < (n : Int) := by omega
      have hi0 : (0 : Int) ≤ (i : Int) := by omega
      have z1 : (f.path.toList == f.path.toList) = true := by simp
      have z2 : (f.text.toList == f.text.toList) = true := by simp
      have z3 : (f.ver == f.ver) = true := by simp
      clear hbw hf hr hr2 hg hg2 kc kd
      go_wp2_with fail
      go_quiet (fail)
      go_wp2_with fail
      go_roundw
      case rel => exact ⟨i + 1, by go_num, by omega, HBW.out.trans (⟨rfl, rfl, rfl, Nat.le_refl _, fun _ _ => rfl⟩)⟩
      case measure => simp [intOf]; omega
    · have hie : i = n := by omega
      subst hie
      have hiI : ¬ (i : Int) < (i : Int) := by omega
      clear hbw
      go_wp2_with fail
      go_ret
      exact ⟨rfl, HBW.out⟩
end Go.Proofs.Ytcjbhjbjkfgphaa
