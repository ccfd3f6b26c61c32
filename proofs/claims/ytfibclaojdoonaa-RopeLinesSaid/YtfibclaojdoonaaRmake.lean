/-
  The program's Of, Join and Cut; and that its ropes do what RopeApi asks. No condition.
-/
import Derived.Test.YtfibclaojdoonaaRtext
import Derived.Test.YtfibclaojdoonaaRcutp
namespace Go.Proofs.Ytfibclaojdoonaa
open Go.RowKit Go.Deep

theorem RopeIs.of {w : World} {b : Nat} {t : RT} (ht : IsRT w b t) (kt : t.ok) {l : List UInt8} (et : t.text = l) (hl : l.length ≤ 65536) : RopeIs w (some ⟨b, 0, none⟩) l := ⟨hl, .inr ⟨b, t, rfl, ht, kt, et⟩⟩

set_option maxHeartbeats 1000000 in
theorem of_ok (l : List UInt8) (s : ByteArray) (w : World) (hs : s = txt l) (hl : l.length ≤ 65536) : Calls Try.prog 9 #[.string s] w (RopeMade RopeIs l w) := by
  have h1 : (s.size : Int) ≤ 65536 := by rw [hs, size_txt]; omega
  have HCL := Lib.hid (clone_same s w (by rw [hs, size_txt]; omega))
  have HD := Lib.hid fun (W : World) => divided_any l s hs W hl
  have HL := Lib.hid hl
  clear hs hl
  go_enter Try.func9, Try.ntmps9
  go_wp2_with fail
  go_at_call 22
  (with_reducible refine HCL.out.mono ?_)
  rintro e w1 ⟨rfl, hb⟩
  have HB := Lib.hid hb
  clear hb
  go_wp2_with fail
  go_at_call 21
  (with_reducible refine (HD.out _).mono ?_)
  rintro e w2 ⟨t, kt, et, x, rfl, hx, hb⟩
  have HB2 := Lib.hid (HB.out.trans (hb.mono HB.out.size))
  have HT := Lib.hid (RopeIs.of hx kt et HL.out)
  clear hb hx kt et
  go_wp2_with fail
  go_ret2
  exact ⟨_, rfl, HT.out, HB2.out⟩
set_option maxHeartbeats 1000000 in
theorem of_no (l : List UInt8) (s : ByteArray) (w : World) (hs : s = txt l) (hl : 65536 < l.length) : Calls Try.prog 9 #[.string s] w (RopeErr 73 w) := by
  have h1 : ¬ (s.size : Int) ≤ 65536 := by rw [hs, size_txt]; omega
  clear hs hl
  go_enter Try.func9, Try.ntmps9
  go_wp2_with fail
  go_ret2
  exact ⟨_, rfl, Below.refl _ _⟩

theorem part_empty (w : World) : Calls Try.prog 24 #[.string ⟨#[]⟩] w fun e w' => ∃ x, e = .returned (.pointer (some ⟨x, 0, none⟩)) ∧ RopeIs w' (some ⟨x, 0, none⟩) [] ∧ Below w.heap.size w w' := by
  refine (part_new [] ⟨#[]⟩ rfl w (by simp)).mono ?_
  rintro e w' ⟨x, rfl, hx, hb⟩
  exact ⟨x, rfl, RopeIs.of hx trivial rfl (by simp), hb⟩

set_option maxRecDepth 100000 in
set_option maxHeartbeats 2000000 in
theorem join_ok {w : World} {p q : Option Addr} {a b : List UInt8} (hp : RopeIs w p a) (hq : RopeIs w q b) (hn : a.length + b.length ≤ 65536) : Calls Try.prog 11 #[.pointer p, .pointer q] w (RopeMade RopeIs (a ++ b) w) := by
  have HL1 := Lib.hid (len_is hp)
  have HL2 := Lib.hid (len_is hq)
  obtain ⟨m, em⟩ : ∃ m, m = a.length := ⟨_, rfl⟩
  obtain ⟨n, en⟩ : ∃ n, n = b.length := ⟨_, rfl⟩
  obtain ⟨s, es⟩ : ∃ s, s = m + n := ⟨_, rfl⟩
  rw [← em] at HL1
  rw [← en] at HL2
  have q1 : IntKind.i64.wrap ((m : Int) + (n : Int)) = (s : Int) := by rw [show (m : Int) + (n : Int) = (s : Int) by omega]; exact IntWalk.i64_in _ (by omega)
  have e1 : (m : Int) + (n : Int) = (s : Int) := by omega
  have u1 : wrap64 (s : Int) = (s : Int) := IntWalk.wrap64_in _ (by omega)
  have g1 : decide (65536 < (s : Int)) = false := by simp; omega
  have g1n : decide (65536 < s) = false := by simp; omega
  have HP := Lib.hid hp
  have HQ := Lib.hid hq
  by_cases ha : 0 < m
  · have g2 : decide (0 < (m : Int)) = true := by simp; omega
    have g2n : decide (0 < m) = true := by simp; omega
    by_cases hb : 0 < n
    · have g3 : decide (0 < (n : Int)) = true := by simp; omega
      have g3n : decide (0 < n) = true := by simp; omega
      have na : a ≠ [] := fun e => by rw [e] at em; simp at em; omega
      have nb : b ≠ [] := fun e => by rw [e] at en; simp at en; omega
      obtain ⟨hla, ⟨_, e⟩ | ⟨x, t, rfl, ht, kt, et⟩⟩ := hp
      · exact absurd e na
      · obtain ⟨hlb, ⟨_, e⟩ | ⟨y, u, rfl, hu, ku, eu⟩⟩ := hq
        · exact absurd e nb
        · have HJ := Lib.hid (joined_any ht hu kt ku (by rw [et]; exact na) (by rw [eu]; exact nb) (by rw [et, eu]; exact hn))
          have HE := Lib.hid (show t.text ++ u.text = a ++ b by rw [et, eu])
          have HN := Lib.hid (show (a ++ b).length ≤ 65536 by rw [List.length_append]; exact hn)
          clear hla hlb ht hu kt ku et eu na nb hn em en es ha hb
          go_enter Try.func11, Try.ntmps11
          go_wp2_with fail
          go_at_call 18
          (with_reducible refine HL1.out.mono ?_)
          rintro e w1 ⟨rfl, rfl⟩
          go_wp2_with fail
          go_at_call 18
          (with_reducible refine HL2.out.mono ?_)
          rintro e w1 ⟨rfl, rfl⟩
          go_wp2_with fail
          go_at_call 18
          (with_reducible refine HL1.out.mono ?_)
          rintro e w1 ⟨rfl, rfl⟩
          go_wp2_with fail
          go_at_call 18
          (with_reducible refine HL2.out.mono ?_)
          rintro e w1 ⟨rfl, rfl⟩
          go_wp2_with fail
          go_at_call 23
          (with_reducible refine HJ.out.mono ?_)
          rintro e w2 ⟨v, kv, ev, z, rfl, hz, hb⟩
          have HZ := Lib.hid (RopeIs.of hz kv (ev.trans HE.out) HN.out)
          have HB := Lib.hid hb
          clear hz hb kv ev
          go_wp2_with fail
          go_ret2
          exact ⟨_, rfl, HZ.out, HB.out⟩
    · have hb0 : n = 0 := by omega
      have eb : b = [] := List.eq_nil_of_length_eq_zero (by omega)
      have g3 : decide (0 < (n : Int)) = false := by simp; omega
      have g3n : decide (0 < n) = false := by simp; omega
      rw [eb, List.append_nil]
      clear hp hq hn em en es ha hb hb0 eb
      go_enter Try.func11, Try.ntmps11
      go_wp2_with fail
      go_at_call 18
      (with_reducible refine HL1.out.mono ?_)
      rintro e w1 ⟨rfl, rfl⟩
      go_wp2_with fail
      go_at_call 18
      (with_reducible refine HL2.out.mono ?_)
      rintro e w1 ⟨rfl, rfl⟩
      go_wp2_with fail
      go_at_call 18
      (with_reducible refine HL1.out.mono ?_)
      rintro e w1 ⟨rfl, rfl⟩
      go_wp2_with fail
      go_at_call 18
      (with_reducible refine HL2.out.mono ?_)
      rintro e w1 ⟨rfl, rfl⟩
      go_wp2_with fail
      go_at_call 18
      (with_reducible refine HL1.out.mono ?_)
      rintro e w1 ⟨rfl, rfl⟩
      go_wp2_with fail
      go_ret2
      exact ⟨_, rfl, HP.out, Below.refl _ _⟩
  · have ha0 : m = 0 := by omega
    have ea : a = [] := List.eq_nil_of_length_eq_zero (by omega)
    have g2 : decide (0 < (m : Int)) = false := by simp; omega
    have g2n : decide (0 < m) = false := by simp; omega
    rw [ea, List.nil_append]
    by_cases hb : 0 < n
    · have g3 : decide (0 < (n : Int)) = true := by simp; omega
      have g3n : decide (0 < n) = true := by simp; omega
      clear hp hq hn em en es ha hb ha0 ea
      go_enter Try.func11, Try.ntmps11
      go_wp2_with fail
      go_at_call 18
      (with_reducible refine HL1.out.mono ?_)
      rintro e w1 ⟨rfl, rfl⟩
      go_wp2_with fail
      go_at_call 18
      (with_reducible refine HL2.out.mono ?_)
      rintro e w1 ⟨rfl, rfl⟩
      go_wp2_with fail
      go_at_call 18
      (with_reducible refine HL1.out.mono ?_)
      rintro e w1 ⟨rfl, rfl⟩
      go_wp2_with fail
      go_at_call 18
      (with_reducible refine HL1.out.mono ?_)
      rintro e w1 ⟨rfl, rfl⟩
      go_wp2_with fail
      go_at_call 18
      (with_reducible refine HL2.out.mono ?_)
      rintro e w1 ⟨rfl, rfl⟩
      go_wp2_with fail
      go_ret2
      exact ⟨_, rfl, HQ.out, Below.refl _ _⟩
    · have hb0 : n = 0 := by omega
      have eb : b = [] := List.eq_nil_of_length_eq_zero (by omega)
      have g3 : decide (0 < (n : Int)) = false := by simp; omega
      have g3n : decide (0 < n) = false := by simp; omega
      rw [eb]
      have HE := Lib.hid (part_empty w)
      clear hp hq hn em en es ha hb hb0 eb ha0 ea
      go_enter Try.func11, Try.ntmps11
      go_wp2_with fail
      go_at_call 18
      (with_reducible refine HL1.out.mono ?_)
      rintro e w1 ⟨rfl, rfl⟩
      go_wp2_with fail
      go_at_call 18
      (with_reducible refine HL2.out.mono ?_)
      rintro e w1 ⟨rfl, rfl⟩
      go_wp2_with fail
      go_at_call 18
      (with_reducible refine HL1.out.mono ?_)
      rintro e w1 ⟨rfl, rfl⟩
      go_wp2_with fail
      go_at_call 18
      (with_reducible refine HL1.out.mono ?_)
      rintro e w1 ⟨rfl, rfl⟩
      go_wp2_with fail
      go_at_call 18
      (with_reducible refine HL2.out.mono ?_)
      rintro e w1 ⟨rfl, rfl⟩
      go_wp2_with fail
      go_at_call 24
      (with_reducible refine HE.out.mono ?_)
      rintro e w1 ⟨x, rfl, hx, hb⟩
      have HX := Lib.hid hx
      have HB := Lib.hid hb
      clear hx hb
      go_wp2_with fail
      go_ret2
      exact ⟨_, rfl, HX.out, HB.out⟩
set_option maxHeartbeats 1000000 in
theorem join_no {w : World} {p q : Option Addr} {a b : List UInt8} (hp : RopeIs w p a) (hq : RopeIs w q b) (hn : 65536 < a.length + b.length) : Calls Try.prog 11 #[.pointer p, .pointer q] w (RopeErr 73 w) := by
  have HL1 := Lib.hid (len_is hp)
  have HL2 := Lib.hid (len_is hq)
  have la := hp.1
  have lb := hq.1
  obtain ⟨m, em⟩ : ∃ m, m = a.length := ⟨_, rfl⟩
  obtain ⟨n, en⟩ : ∃ n, n = b.length := ⟨_, rfl⟩
  obtain ⟨s, es⟩ : ∃ s, s = m + n := ⟨_, rfl⟩
  rw [← em] at HL1
  rw [← en] at HL2
  have q1 : IntKind.i64.wrap ((m : Int) + (n : Int)) = (s : Int) := by rw [show (m : Int) + (n : Int) = (s : Int) by omega]; exact IntWalk.i64_in _ (by omega)
  have e1 : (m : Int) + (n : Int) = (s : Int) := by omega
  have u1 : wrap64 (s : Int) = (s : Int) := IntWalk.wrap64_in _ (by omega)
  have g1 : decide (65536 < (s : Int)) = true := by simp; omega
  have g1n : decide (65536 < s) = true := by simp; omega
  clear hp hq hn em en es la lb
  go_enter Try.func11, Try.ntmps11
  go_wp2_with fail
  go_at_call 18
  (with_reducible refine HL1.out.mono ?_)
  rintro e w1 ⟨rfl, rfl⟩
  go_wp2_with fail
  go_at_call 18
  (with_reducible refine HL2.out.mono ?_)
  rintro e w1 ⟨rfl, rfl⟩
  go_wp2_with fail
  go_ret2
  exact ⟨_, rfl, Below.refl _ _⟩

set_option maxRecDepth 100000 in
set_option maxHeartbeats 2000000 in
theorem cut_ok {w : World} {p : Option Addr} {l : List UInt8} (i j : Nat) (hp : RopeIs w p l) (hij : i ≤ j) (hj : j ≤ l.length) :
    Calls Try.prog 12 #[.pointer p, .int .i64 (i : Int), .int .i64 (j : Int)] w (RopeMade RopeIs ((l.take j).drop i) w) := by
  have HL1 := Lib.hid (len_is hp)
  have hle := hp.1
  obtain ⟨m, em⟩ : ∃ m, m = l.length := ⟨_, rfl⟩
  rw [← em] at HL1
  have g1 : decide ((i : Int) < 0) = false := by simp
  have g2 : decide ((j : Int) < (i : Int)) = false := by simp; omega
  have g2n : decide (j < i) = false := by simp; omega
  have g3 : decide ((m : Int) < (j : Int)) = false := by simp; omega
  have g3n : decide (m < j) = false := by simp; omega
  by_cases he : i = j
  · subst he
    have g4 : ((i : Int) == (i : Int)) = true := by simp
    rw [show (l.take i).drop i = [] from List.drop_of_length_le (by rw [List.length_take]; omega)]
    have HE := Lib.hid (part_empty w)
    clear hp hij hj hle em
    go_enter Try.func12, Try.ntmps12
    go_wp2_with fail
    go_at_call 18
    (with_reducible refine HL1.out.mono ?_)
    rintro e w1 ⟨rfl, rfl⟩
    go_wp2_with fail
    go_at_call 24
    (with_reducible refine HE.out.mono ?_)
    rintro e w1 ⟨x, rfl, hx, hb⟩
    have HX := Lib.hid hx
    have HB := Lib.hid hb
    clear hx hb
    go_wp2_with fail
    go_ret2
    exact ⟨_, rfl, HX.out, HB.out⟩
  · have g4 : ((i : Int) == (j : Int)) = false := by simp; omega
    have g4n : (i == j) = false := by simp; omega
    obtain ⟨_, ⟨_, e⟩ | ⟨b, t, rfl, ht, kt, et⟩⟩ := hp
    · rw [e] at hj; simp at hj; omega
    · have hc := cut_any t w b i j ht kt (by rw [et]; exact hle) (by omega) (by rw [et]; exact hj)
      rw [et] at hc
      have HC := Lib.hid hc
      have HN := Lib.hid (show ((l.take j).drop i).length ≤ 65536 by rw [drop_take_len hj]; omega)
      clear hc hij hj hle em ht kt et he
      go_enter Try.func12, Try.ntmps12
      go_wp2_with fail
      go_at_call 18
      (with_reducible refine HL1.out.mono ?_)
      rintro e w1 ⟨rfl, rfl⟩
      go_wp2_with fail
      go_at_call 25
      (with_reducible refine HC.out.mono ?_)
      rintro e w1 ⟨v, kv, ev, z, rfl, hz, hb⟩
      have HZ := Lib.hid (RopeIs.of hz kv ev HN.out)
      have HB := Lib.hid hb
      clear hz hb kv ev
      go_wp2_with fail
      go_ret2
      exact ⟨_, rfl, HZ.out, HB.out⟩
set_option maxRecDepth 100000 in
set_option maxHeartbeats 2000000 in
theorem cut_no {w : World} {p : Option Addr} {l : List UInt8} (i j : Int) (hp : RopeIs w p l) (h : ¬ CutOk l i j) :
    Calls Try.prog 12 #[.pointer p, .int .i64 i, .int .i64 j] w (RopeErr 61 w) := by
  have HL1 := Lib.hid (len_is hp)
  obtain ⟨m, em⟩ : ∃ m, m = l.length := ⟨_, rfl⟩
  unfold CutOk at h
  rw [← em] at HL1 h
  by_cases h1 : i < 0
  · have g1 : decide (i < 0) = true := by simp [h1]
    clear hp h h1 em
    go_enter Try.func12, Try.ntmps12
    go_wp2_with fail
    go_ret2
    exact ⟨_, rfl, Below.refl _ _⟩
  · have g1 : decide (i < 0) = false := by simp; omega
    by_cases h2 : j < i
    · have g2 : decide (j < i) = true := by simp [h2]
      clear hp h h1 h2 em
      go_enter Try.func12, Try.ntmps12
      go_wp2_with fail
      go_ret2
      exact ⟨_, rfl, Below.refl _ _⟩
    · have g2 : decide (j < i) = false := by simp; omega
      have g3 : decide ((m : Int) < j) = true := by simp; omega
      clear hp h h1 h2 em
      go_enter Try.func12, Try.ntmps12
      go_wp2_with fail
      go_at_call 18
      (with_reducible refine HL1.out.mono ?_)
      rintro e w1 ⟨rfl, rfl⟩
      go_wp2_with fail
      go_ret2
      exact ⟨_, rfl, Below.refl _ _⟩

/-- THE PROGRAM's ROPES ARE ROPES. -/
theorem rope_api : RopeApi RopeIs where
  below := fun h hb => h.below hb
  len := fun h => h.1
  nil := fun _ => ⟨by simp, .inl ⟨rfl, rfl⟩⟩
  lt := fun h a ha => by
    obtain ⟨_, ⟨e, _⟩ | ⟨b, t, e, ht, _⟩⟩ := h
    · rw [e] at ha; cases ha
    · rw [e] at ha
      injection ha with ha
      rw [← ha]
      exact ht.lt
  of_ok := fun l s w hs hl => of_ok l s w hs hl
  of_no := fun l s w hs hl _ => of_no l s w hs hl
  join_ok := fun hp hq hn => join_ok hp hq hn
  join_no := fun hp hq hn => join_no hp hq hn
  cut_ok := fun i j hp hij hj => cut_ok i j hp hij hj
  cut_no := fun i j hp _ _ h => cut_no i j hp h
  len_is := fun h => (len_is h).mono fun e w' h => ⟨h.1, h.2 ▸ Below.refl _ _⟩
  text_is := fun h => text_is h
  lines_is := fun h => lines_is h
  line_is := fun n h _ => line_is n h
  index_is := fun n h _ => index_any n h
end Go.Proofs.Ytfibclaojdoonaa
