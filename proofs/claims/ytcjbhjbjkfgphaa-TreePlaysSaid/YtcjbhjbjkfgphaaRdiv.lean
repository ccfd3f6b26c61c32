/-
  The program's divided: a new rope of a text. Condition: the text is no longer than 65536 bytes.
  The program's cut: a rope of some of a rope's bytes. Condition: the rope is no longer than 65536 bytes, and some bytes are cut.
  The program's Len and Index, the loops that go down to a part. Condition: the rope is no longer than 65536 bytes.
-/
import Derived.Test.YtcjbhjbjkfgphaaRturn3
import Derived.Test.YtcjbhjbjkfgphaaRpart
import Derived.Deep.LoopGhost
namespace Go.Proofs.Ytcjbhjbjkfgphaa
open Go.RowKit Go.Deep

set_option maxRecDepth 100000 in
set_option maxHeartbeats 2000000 in
theorem divided_deep (n : Nat) : ∀ (l : List UInt8) (s : ByteArray) (w : World), l.length ≤ n → s = txt l → l.length ≤ 65536 →
    Calls Try.prog 25 #[.string s] w (MadeText l w) := by
  induction n with
  | zero =>
    intro l s w hn hs hl
    have HP := Lib.hid (part_new l s hs w (by omega))
    have hsz : s.size = l.length := by rw [hs, size_txt]
    have d1 : decide ((s.size : Int) ≤ 256) = true := by simp; omega
    have d1n : decide (s.size ≤ 256) = true := by simp; omega
    clear hn hs hl hsz
    go_enter Try.func25, Try.ntmps25
    go_wp2_with fail
    go_at_call 37
    (with_reducible refine HP.out.mono ?_)
    rintro e w1 ⟨x, rfl, hx, hb⟩
    have HX := Lib.hid hx
    have HB := Lib.hid hb
    clear hx hb
    go_wp2_with fail
    go_ret
    exact ⟨.part l, trivial, rfl, x, rfl, HX.out, HB.out⟩
  | succ n ih =>
    intro l s w hn hs hl
    have hsz : s.size = l.length := by rw [hs, size_txt]
    by_cases h1 : l.length ≤ 256
    · have HP := Lib.hid (part_new l s hs w (by omega))
      have d1 : decide ((s.size : Int) ≤ 256) = true := by simp; omega
      have d1n : decide (s.size ≤ 256) = true := by simp; omega
      clear hn hs hl hsz ih h1
      go_enter Try.func25, Try.ntmps25
      go_wp2_with fail
      go_at_call 37
      (with_reducible refine HP.out.mono ?_)
      rintro e w1 ⟨x, rfl, hx, hb⟩
      have HX := Lib.hid hx
      have HB := Lib.hid hb
      clear hx hb
      go_wp2_with fail
      go_ret
      exact ⟨.part l, trivial, rfl, x, rfl, HX.out, HB.out⟩
    · have d1 : decide ((s.size : Int) ≤ 256) = false := by simp; omega
      have d1n : decide (s.size ≤ 256) = false := by simp; omega
      obtain ⟨m, em⟩ : ∃ m, m = l.length / 2 := ⟨_, rfl⟩
      have hm1 : 0 < m := by omega
      have hm2 : m < l.length := by omega
      have q1 : (s.size : Int) / 2 = (m : Int) := by rw [hsz, em]; omega
      have q2 : wrap64 (m : Int) = (m : Int) := IntWalk.wrap64_in _ (by omega)
      have s1 := fun W => str_slice_to hs (b := m) (by omega) W
      have s2 := fun W => str_slice_from hs (a := m) (by omega) W
      obtain ⟨S1, eS1⟩ : ∃ S, S = txt (l.take m) := ⟨_, rfl⟩
      obtain ⟨S2, eS2⟩ : ∃ S, S = txt (l.drop m) := ⟨_, rfl⟩
      rw [← eS1] at s1
      rw [← eS2] at s2
      have HD1 := Lib.hid fun (W : World) => ih (l.take m) S1 W (by rw [List.length_take]; omega) eS1 (by rw [List.length_take]; omega)
      have HD2 := Lib.hid fun (W : World) => ih (l.drop m) S2 W (by rw [List.length_drop]; omega) eS2 (by rw [List.length_drop]; omega)
      have HJ := Lib.hid fun (W : World) (u v : Nat) (a b : RT) (ha : IsRT W u a) (hb : IsRT W v b) (ka : a.ok) (kb : b.ok) (ea : a.text = l.take m) (eb : b.text = l.drop m) =>
        joined_any ha hb ka kb (by rw [ea]; intro e; have := congrArg List.length e; rw [List.length_take, List.length_nil] at this; omega) (by rw [eb]; intro e; have := congrArg List.length e; rw [List.length_drop, List.length_nil] at this; omega) (by rw [ea, eb, List.length_take, List.length_drop]; omega)
      clear hn hs hl hsz ih h1 em hm1 hm2 eS1 eS2
      go_enter Try.func25, Try.ntmps25
      go_wp2_with fail
      have HBD := Lib.hid (Below.refl w.heap.size w).drew
      go_region_held3 (fun _ => True)
        ((trivial))
        (first
          | (go_at_call 25; (with_reducible refine (HD1.out _).mono ?_); rintro e w1 ⟨a, ka, ea, u, rfl, hu, hb1⟩; have HC1 := Lib.hid (HBD.out.trans (hb1.mono HBD.out.size)); have HU := Lib.hid hu; have HA := Lib.hid (And.intro ka ea); clear hu hb1 ka ea)
          | (go_at_call 25; (with_reducible refine (HD2.out _).mono ?_); rintro e w2 ⟨b, kb, eb, v, rfl, hv, hb2⟩; have HC2 := Lib.hid (HC1.out.trans (hb2.mono HC1.out.size)); have HU2 := Lib.hid (HU.out.below hb2); have HV := Lib.hid hv; have HB := Lib.hid (And.intro kb eb); clear hv hb2 kb eb)
          | (go_at_call 38; (with_reducible refine (HJ.out _ _ _ a b HU2.out HV.out HA.out.1 HB.out.1 HA.out.2 HB.out.2).mono ?_); rintro e w3 ⟨t, kt, et, z, rfl, hz, hb3⟩; have HC3 := Lib.hid (HC2.out.trans (hb3.mono HC2.out.size)); have HZ := Lib.hid hz; have HT := Lib.hid (And.intro kt et); clear hz hb3 kt et))
      go_wp2_with fail
      go_ret
      exact ⟨t, HT.out.1, by rw [HT.out.2, HA.out.2, HB.out.2, List.take_append_drop], _, rfl, HZ.out, HC3.out⟩
theorem divided_any (l : List UInt8) (s : ByteArray) (hs : s = txt l) (w : World) (hl : l.length ≤ 65536) : Calls Try.prog 25 #[.string s] w (MadeText l w) := divided_deep _ l s w (Nat.le_refl _) hs hl
end Go.Proofs.Ytcjbhjbjkfgphaa

namespace Go.Proofs.Ytcjbhjbjkfgphaa
open Go.RowKit Go.Deep

theorem drop_take_len {l : List UInt8} {i j : Nat} (h : j ≤ l.length) : ((l.take j).drop i).length = j - i := by rw [List.length_drop, List.length_take, Nat.min_eq_left h]
theorem cut_left {a b : List UInt8} {i j : Nat} (h : j ≤ a.length) : ((a ++ b).take j).drop i = (a.take j).drop i := by rw [List.take_append_of_le_length h]
theorem cut_right {a b : List UInt8} {i j : Nat} (h : a.length ≤ i) : ((a ++ b).take j).drop i = (b.take (j - a.length)).drop (i - a.length) := by
  rw [List.take_append, List.drop_append, List.drop_of_length_le (by rw [List.length_take]; omega), List.nil_append, List.length_take]
  by_cases hj : a.length ≤ j
  · rw [Nat.min_eq_right hj]
  · rw [Nat.min_eq_left (by omega), show j - a.length = 0 by omega, List.take_zero, List.drop_nil, List.drop_nil]
theorem cut_both {a b : List UInt8} {i j : Nat} (h1 : i ≤ a.length) (h2 : a.length ≤ j) : ((a ++ b).take j).drop i = (a.take a.length).drop i ++ (b.take (j - a.length)).drop 0 := by
  rw [List.take_append, List.take_of_length_le h2, List.take_length, List.drop_zero, List.drop_append_of_le_length h1]

end Go.Proofs.Ytcjbhjbjkfgphaa

namespace Go.Proofs.Ytcjbhjbjkfgphaa
open Go.RowKit Go.Deep

/-- What a rope in memory says: none is the empty text. -/
def RopeIs (w : World) (p : Option Addr) (l : List UInt8) : Prop := l.length ≤ 65536 ∧ ((p = none ∧ l = []) ∨ ∃ b t, p = some ⟨b, 0, none⟩ ∧ IsRT w b t ∧ t.ok ∧ t.text = l)
theorem RopeIs.below {w w' : World} {p : Option Addr} {l : List UInt8} (h : RopeIs w p l) (hb : Below w.heap.size w w') : RopeIs w' p l := by
  obtain ⟨h1, h2 | ⟨b, t, e, h3, h4, h5⟩⟩ := h
  · exact ⟨h1, .inl h2⟩
  · exact ⟨h1, .inr ⟨b, t, e, h3.below hb, h4, h5⟩⟩

set_option maxHeartbeats 1000000 in
theorem len_is {w : World} {p : Option Addr} {l : List UInt8} (h : RopeIs w p l) : Calls Try.prog 36 #[.pointer p] w fun e w' => e = .returned (.int .i64 (l.length : Int)) ∧ w = w' := by
  obtain ⟨_, ⟨rfl, rfl⟩ | ⟨b, t, rfl, h3, _, rfl⟩⟩ := h
  · go_enter Try.func36, Try.ntmps36
    go_wp2_with fail
    go_ret
    exact ⟨rfl, rfl⟩
  · have c3 := h3.sizeC
    clear h3
    obtain ⟨n, en⟩ : ∃ n, n = t.text.length := ⟨_, rfl⟩
    rw [← en] at c3 ⊢
    clear en
    go_enter Try.func36, Try.ntmps36
    go_wp2_with fail
    go_ret
    exact ⟨rfl, rfl⟩

end Go.Proofs.Ytcjbhjbjkfgphaa
