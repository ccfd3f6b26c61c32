/-
  Package script: what a letter takes. No condition.
-/
import Derived.Test.YtncbmdbfdjhkeaaSo
import Derived.Great.BuildSlice
namespace Go.Proofs.Ytncbmdbfdjhkeaa
open Go.RowKit Go.Deep Go.Sort

theorem wpList_put1 {ops : Array Oper} {rest : List Oper} {o : Oper} {a : Act} {W : World} {Q : Exit → Act → World → Prop} {T : TypeId} {old : Value} (hgd : o.guard = none) (ty : TypeId) (x y : Operand) (ho : o.op = .store ty x y) (hx : a.eval x = .pointer (some ⟨W.heap.size, 0, none⟩)) {v : Value} (hy : a.eval y = v) (h1 : v.oneCell' = true) (hi : (Try.prog.info? ty).map (·.size) = some 1)
    (h : wpList Try.prog ops Q rest (a.put o.dst undef) (W.alloc (.cells #[v] T))) : wpList Try.prog ops Q (o :: rest) a (W.alloc (.cells #[old] T)) := by
  subst hy
  refine wpList_store_one hgd ty x y ho W.heap.size hx h1 T old (heap_alloc_new W _) hi ?_
  rw [World.setRow_alloc_new]
  exact h
set_option maxRecDepth 100000 in
set_option maxHeartbeats 16000000 in
theorem letter_123 {s : ByteArray} {ext : Bool} {r b n : Nat} {c : CX} {w : World} (h : Rd s ext r (n : Int) w) (hc : Cm c b w) (hnm : c.name = 123) : Calls Try.prog 19 #[.pointer (some ⟨r, 0, none⟩), .pointer (some ⟨b, 0, none⟩)] w fun e w' => e = .returned (.tuple #[.int .i64 2, .func (.func 26) #[] #[]]) ∧ Below w.heap.size w w' := by
  have HR := Lib.hid (RC.start h hc)
  have HRL := Lib.hid h.lt
  have HBL := Lib.hid hc.lt
  have HNM := Lib.hid hnm
  clear h hc hnm
  go_enter Try.func19, Try.ntmps19
  go_upto_region 1 with fail
  obtain ⟨p, hp⟩ : ∃ p, p = w.heap.size := ⟨_, rfl⟩
  obtain ⟨w1, hw1⟩ : ∃ w1, w1 = (w.alloc (.cells #[.pointer (some ⟨r, 0, none⟩)] 52)).alloc (.cells #[.pointer (some ⟨b, 0, none⟩)] 51) := ⟨_, rfl⟩
  have HC1 := Lib.hid (show Cap r b p (p + 1) w1 by rw [hp, hw1]; exact ⟨heap_alloc2_old w _ _, heap_alloc2_new w _ _⟩)
  have HB1 := Lib.hid (show Below w.heap.size w w1 by rw [hw1]; exact (bW w _).trans ((bW _ _).mono (by rw [World.size_alloc]; omega)))
  rw [← hw1, ← hp]
  clear hp hw1
  go_upto_region 3 with (refine wpList_put1 rfl 22 (.tmp 7) (.tmp 11) rfl rfl (v := .func (.func 27) #[] #[.pointer (some ⟨p, 0, none⟩), .pointer (some ⟨p + 1, 0, none⟩)]) rfl rfl (by kernel_rfl) ?_)
  obtain ⟨w2, hw2⟩ : ∃ w2, w2 = w1.alloc (.cells #[.func (.func 27) #[] #[.pointer (some ⟨p, 0, none⟩), .pointer (some ⟨p + 1, 0, none⟩)]] 22) := ⟨_, rfl⟩
  have HB2 := Lib.hid (show Below w.heap.size w w2 by rw [hw2]; exact HB1.out.alloc HB1.out.size _)
  have HC2 := Lib.hid (show Cap r b p (p + 1) w2 by rw [hw2]; exact HC1.out.stays (bW w1 _))
  rw [← hw2]
  clear hw2
  have kc := (HR.out.below HB2.out).cm.cell 1 _ rfl
  have kq := HC2.out.cq.cell
  rw [HNM.out] at kc
  go_wp2_with fail
  go_ret2
  exact ⟨rfl, HB2.out⟩
set_option maxRecDepth 100000 in
set_option maxHeartbeats 16000000 in
theorem letter_100 {s : ByteArray} {ext : Bool} {r b n : Nat} {c : CX} {w : World} (h : Rd s ext r (n : Int) w) (hc : Cm c b w) (hnm : c.name = 100) : Calls Try.prog 19 #[.pointer (some ⟨r, 0, none⟩), .pointer (some ⟨b, 0, none⟩)] w fun e w' => e = .returned (.tuple #[.int .i64 2, .func (.func 26) #[] #[]]) ∧ Below w.heap.size w w' := by
  have HR := Lib.hid (RC.start h hc)
  have HRL := Lib.hid h.lt
  have HBL := Lib.hid hc.lt
  have HNM := Lib.hid hnm
  clear h hc hnm
  go_enter Try.func19, Try.ntmps19
  go_upto_region 1 with fail
  obtain ⟨p, hp⟩ : ∃ p, p = w.heap.size := ⟨_, rfl⟩
  obtain ⟨w1, hw1⟩ : ∃ w1, w1 = (w.alloc (.cells #[.pointer (some ⟨r, 0, none⟩)] 52)).alloc (.cells #[.pointer (some ⟨b, 0, none⟩)] 51) := ⟨_, rfl⟩
  have HC1 := Lib.hid (show Cap r b p (p + 1) w1 by rw [hp, hw1]; exact ⟨heap_alloc2_old w _ _, heap_alloc2_new w _ _⟩)
  have HB1 := Lib.hid (show Below w.heap.size w w1 by rw [hw1]; exact (bW w _).trans ((bW _ _).mono (by rw [World.size_alloc]; omega)))
  rw [← hw1, ← hp]
  clear hp hw1
  go_upto_region 3 with (refine wpList_put1 rfl 22 (.tmp 7) (.tmp 11) rfl rfl (v := .func (.func 27) #[] #[.pointer (some ⟨p, 0, none⟩), .pointer (some ⟨p + 1, 0, none⟩)]) rfl rfl (by kernel_rfl) ?_)
  obtain ⟨w2, hw2⟩ : ∃ w2, w2 = w1.alloc (.cells #[.func (.func 27) #[] #[.pointer (some ⟨p, 0, none⟩), .pointer (some ⟨p + 1, 0, none⟩)]] 22) := ⟨_, rfl⟩
  have HB2 := Lib.hid (show Below w.heap.size w w2 by rw [hw2]; exact HB1.out.alloc HB1.out.size _)
  have HC2 := Lib.hid (show Cap r b p (p + 1) w2 by rw [hw2]; exact HC1.out.stays (bW w1 _))
  rw [← hw2]
  clear hw2
  have kc := (HR.out.below HB2.out).cm.cell 1 _ rfl
  have kq := HC2.out.cq.cell
  rw [HNM.out] at kc
  go_wp2_with fail
  go_ret2
  exact ⟨rfl, HB2.out⟩
set_option maxRecDepth 100000 in
set_option maxHeartbeats 16000000 in
theorem letter_68 {s : ByteArray} {ext : Bool} {r b n : Nat} {c : CX} {w : World} (h : Rd s ext r (n : Int) w) (hc : Cm c b w) (hnm : c.name = 68) : Calls Try.prog 19 #[.pointer (some ⟨r, 0, none⟩), .pointer (some ⟨b, 0, none⟩)] w fun e w' => e = .returned (.tuple #[.int .i64 2, .func (.func 26) #[] #[]]) ∧ Below w.heap.size w w' := by
  have HR := Lib.hid (RC.start h hc)
  have HRL := Lib.hid h.lt
  have HBL := Lib.hid hc.lt
  have HNM := Lib.hid hnm
  clear h hc hnm
  go_enter Try.func19, Try.ntmps19
  go_upto_region 1 with fail
  obtain ⟨p, hp⟩ : ∃ p, p = w.heap.size := ⟨_, rfl⟩
  obtain ⟨w1, hw1⟩ : ∃ w1, w1 = (w.alloc (.cells #[.pointer (some ⟨r, 0, none⟩)] 52)).alloc (.cells #[.pointer (some ⟨b, 0, none⟩)] 51) := ⟨_, rfl⟩
  have HC1 := Lib.hid (show Cap r b p (p + 1) w1 by rw [hp, hw1]; exact ⟨heap_alloc2_old w _ _, heap_alloc2_new w _ _⟩)
  have HB1 := Lib.hid (show Below w.heap.size w w1 by rw [hw1]; exact (bW w _).trans ((bW _ _).mono (by rw [World.size_alloc]; omega)))
  rw [← hw1, ← hp]
  clear hp hw1
  go_upto_region 3 with (refine wpList_put1 rfl 22 (.tmp 7) (.tmp 11) rfl rfl (v := .func (.func 27) #[] #[.pointer (some ⟨p, 0, none⟩), .pointer (some ⟨p + 1, 0, none⟩)]) rfl rfl (by kernel_rfl) ?_)
  obtain ⟨w2, hw2⟩ : ∃ w2, w2 = w1.alloc (.cells #[.func (.func 27) #[] #[.pointer (some ⟨p, 0, none⟩), .pointer (some ⟨p + 1, 0, none⟩)]] 22) := ⟨_, rfl⟩
  have HB2 := Lib.hid (show Below w.heap.size w w2 by rw [hw2]; exact HB1.out.alloc HB1.out.size _)
  have HC2 := Lib.hid (show Cap r b p (p + 1) w2 by rw [hw2]; exact HC1.out.stays (bW w1 _))
  rw [← hw2]
  clear hw2
  have kc := (HR.out.below HB2.out).cm.cell 1 _ rfl
  have kq := HC2.out.cq.cell
  rw [HNM.out] at kc
  go_wp2_with fail
  go_ret2
  exact ⟨rfl, HB2.out⟩
set_option maxRecDepth 100000 in
set_option maxHeartbeats 16000000 in
theorem letter_103 {s : ByteArray} {ext : Bool} {r b n : Nat} {c : CX} {w : World} (h : Rd s ext r (n : Int) w) (hc : Cm c b w) (hnm : c.name = 103) : Calls Try.prog 19 #[.pointer (some ⟨r, 0, none⟩), .pointer (some ⟨b, 0, none⟩)] w fun e w' => e = .returned (.tuple #[.int .i64 2, .func (.func 26) #[] #[]]) ∧ Below w.heap.size w w' := by
  have HR := Lib.hid (RC.start h hc)
  have HRL := Lib.hid h.lt
  have HBL := Lib.hid hc.lt
  have HNM := Lib.hid hnm
  clear h hc hnm
  go_enter Try.func19, Try.ntmps19
  go_upto_region 1 with fail
  obtain ⟨p, hp⟩ : ∃ p, p = w.heap.size := ⟨_, rfl⟩
  obtain ⟨w1, hw1⟩ : ∃ w1, w1 = (w.alloc (.cells #[.pointer (some ⟨r, 0, none⟩)] 52)).alloc (.cells #[.pointer (some ⟨b, 0, none⟩)] 51) := ⟨_, rfl⟩
  have HC1 := Lib.hid (show Cap r b p (p + 1) w1 by rw [hp, hw1]; exact ⟨heap_alloc2_old w _ _, heap_alloc2_new w _ _⟩)
  have HB1 := Lib.hid (show Below w.heap.size w w1 by rw [hw1]; exact (bW w _).trans ((bW _ _).mono (by rw [World.size_alloc]; omega)))
  rw [← hw1, ← hp]
  clear hp hw1
  go_upto_region 3 with (refine wpList_put1 rfl 22 (.tmp 7) (.tmp 11) rfl rfl (v := .func (.func 27) #[] #[.pointer (some ⟨p, 0, none⟩), .pointer (some ⟨p + 1, 0, none⟩)]) rfl rfl (by kernel_rfl) ?_)
  obtain ⟨w2, hw2⟩ : ∃ w2, w2 = w1.alloc (.cells #[.func (.func 27) #[] #[.pointer (some ⟨p, 0, none⟩), .pointer (some ⟨p + 1, 0, none⟩)]] 22) := ⟨_, rfl⟩
  have HB2 := Lib.hid (show Below w.heap.size w w2 by rw [hw2]; exact HB1.out.alloc HB1.out.size _)
  have HC2 := Lib.hid (show Cap r b p (p + 1) w2 by rw [hw2]; exact HC1.out.stays (bW w1 _))
  rw [← hw2]
  clear hw2
  have kc := (HR.out.below HB2.out).cm.cell 1 _ rfl
  have kq := HC2.out.cq.cell
  rw [HNM.out] at kc
  go_wp2_with fail
  go_ret2
  exact ⟨rfl, HB2.out⟩
set_option maxRecDepth 100000 in
set_option maxHeartbeats 16000000 in
theorem letter_71 {s : ByteArray} {ext : Bool} {r b n : Nat} {c : CX} {w : World} (h : Rd s ext r (n : Int) w) (hc : Cm c b w) (hnm : c.name = 71) : Calls Try.prog 19 #[.pointer (some ⟨r, 0, none⟩), .pointer (some ⟨b, 0, none⟩)] w fun e w' => e = .returned (.tuple #[.int .i64 2, .func (.func 26) #[] #[]]) ∧ Below w.heap.size w w' := by
  have HR := Lib.hid (RC.start h hc)
  have HRL := Lib.hid h.lt
  have HBL := Lib.hid hc.lt
  have HNM := Lib.hid hnm
  clear h hc hnm
  go_enter Try.func19, Try.ntmps19
  go_upto_region 1 with fail
  obtain ⟨p, hp⟩ : ∃ p, p = w.heap.size := ⟨_, rfl⟩
  obtain ⟨w1, hw1⟩ : ∃ w1, w1 = (w.alloc (.cells #[.pointer (some ⟨r, 0, none⟩)] 52)).alloc (.cells #[.pointer (some ⟨b, 0, none⟩)] 51) := ⟨_, rfl⟩
  have HC1 := Lib.hid (show Cap r b p (p + 1) w1 by rw [hp, hw1]; exact ⟨heap_alloc2_old w _ _, heap_alloc2_new w _ _⟩)
  have HB1 := Lib.hid (show Below w.heap.size w w1 by rw [hw1]; exact (bW w _).trans ((bW _ _).mono (by rw [World.size_alloc]; omega)))
  rw [← hw1, ← hp]
  clear hp hw1
  go_upto_region 3 with (refine wpList_put1 rfl 22 (.tmp 7) (.tmp 11) rfl rfl (v := .func (.func 27) #[] #[.pointer (some ⟨p, 0, none⟩), .pointer (some ⟨p + 1, 0, none⟩)]) rfl rfl (by kernel_rfl) ?_)
  obtain ⟨w2, hw2⟩ : ∃ w2, w2 = w1.alloc (.cells #[.func (.func 27) #[] #[.pointer (some ⟨p, 0, none⟩), .pointer (some ⟨p + 1, 0, none⟩)]] 22) := ⟨_, rfl⟩
  have HB2 := Lib.hid (show Below w.heap.size w w2 by rw [hw2]; exact HB1.out.alloc HB1.out.size _)
  have HC2 := Lib.hid (show Cap r b p (p + 1) w2 by rw [hw2]; exact HC1.out.stays (bW w1 _))
  rw [← hw2]
  clear hw2
  have kc := (HR.out.below HB2.out).cm.cell 1 _ rfl
  have kq := HC2.out.cq.cell
  rw [HNM.out] at kc
  go_wp2_with fail
  go_ret2
  exact ⟨rfl, HB2.out⟩
set_option maxRecDepth 100000 in
set_option maxHeartbeats 16000000 in
theorem letter_104 {s : ByteArray} {ext : Bool} {r b n : Nat} {c : CX} {w : World} (h : Rd s ext r (n : Int) w) (hc : Cm c b w) (hnm : c.name = 104) : Calls Try.prog 19 #[.pointer (some ⟨r, 0, none⟩), .pointer (some ⟨b, 0, none⟩)] w fun e w' => e = .returned (.tuple #[.int .i64 2, .func (.func 26) #[] #[]]) ∧ Below w.heap.size w w' := by
  have HR := Lib.hid (RC.start h hc)
  have HRL := Lib.hid h.lt
  have HBL := Lib.hid hc.lt
  have HNM := Lib.hid hnm
  clear h hc hnm
  go_enter Try.func19, Try.ntmps19
  go_upto_region 1 with fail
  obtain ⟨p, hp⟩ : ∃ p, p = w.heap.size := ⟨_, rfl⟩
  obtain ⟨w1, hw1⟩ : ∃ w1, w1 = (w.alloc (.cells #[.pointer (some ⟨r, 0, none⟩)] 52)).alloc (.cells #[.pointer (some ⟨b, 0, none⟩)] 51) := ⟨_, rfl⟩
  have HC1 := Lib.hid (show Cap r b p (p + 1) w1 by rw [hp, hw1]; exact ⟨heap_alloc2_old w _ _, heap_alloc2_new w _ _⟩)
  have HB1 := Lib.hid (show Below w.heap.size w w1 by rw [hw1]; exact (bW w _).trans ((bW _ _).mono (by rw [World.size_alloc]; omega)))
  rw [← hw1, ← hp]
  clear hp hw1
  go_upto_region 3 with (refine wpList_put1 rfl 22 (.tmp 7) (.tmp 11) rfl rfl (v := .func (.func 27) #[] #[.pointer (some ⟨p, 0, none⟩), .pointer (some ⟨p + 1, 0, none⟩)]) rfl rfl (by kernel_rfl) ?_)
  obtain ⟨w2, hw2⟩ : ∃ w2, w2 = w1.alloc (.cells #[.func (.func 27) #[] #[.pointer (some ⟨p, 0, none⟩), .pointer (some ⟨p + 1, 0, none⟩)]] 22) := ⟨_, rfl⟩
  have HB2 := Lib.hid (show Below w.heap.size w w2 by rw [hw2]; exact HB1.out.alloc HB1.out.size _)
  have HC2 := Lib.hid (show Cap r b p (p + 1) w2 by rw [hw2]; exact HC1.out.stays (bW w1 _))
  rw [← hw2]
  clear hw2
  have kc := (HR.out.below HB2.out).cm.cell 1 _ rfl
  have kq := HC2.out.cq.cell
  rw [HNM.out] at kc
  go_wp2_with fail
  go_ret2
  exact ⟨rfl, HB2.out⟩
set_option maxRecDepth 100000 in
set_option maxHeartbeats 16000000 in
theorem letter_72 {s : ByteArray} {ext : Bool} {r b n : Nat} {c : CX} {w : World} (h : Rd s ext r (n : Int) w) (hc : Cm c b w) (hnm : c.name = 72) : Calls Try.prog 19 #[.pointer (some ⟨r, 0, none⟩), .pointer (some ⟨b, 0, none⟩)] w fun e w' => e = .returned (.tuple #[.int .i64 2, .func (.func 26) #[] #[]]) ∧ Below w.heap.size w w' := by
  have HR := Lib.hid (RC.start h hc)
  have HRL := Lib.hid h.lt
  have HBL := Lib.hid hc.lt
  have HNM := Lib.hid hnm
  clear h hc hnm
  go_enter Try.func19, Try.ntmps19
  go_upto_region 1 with fail
  obtain ⟨p, hp⟩ : ∃ p, p = w.heap.size := ⟨_, rfl⟩
  obtain ⟨w1, hw1⟩ : ∃ w1, w1 = (w.alloc (.cells #[.pointer (some ⟨r, 0, none⟩)] 52)).alloc (.cells #[.pointer (some ⟨b, 0, none⟩)] 51) := ⟨_, rfl⟩
  have HC1 := Lib.hid (show Cap r b p (p + 1) w1 by rw [hp, hw1]; exact ⟨heap_alloc2_old w _ _, heap_alloc2_new w _ _⟩)
  have HB1 := Lib.hid (show Below w.heap.size w w1 by rw [hw1]; exact (bW w _).trans ((bW _ _).mono (by rw [World.size_alloc]; omega)))
  rw [← hw1, ← hp]
  clear hp hw1
  go_upto_region 3 with (refine wpList_put1 rfl 22 (.tmp 7) (.tmp 11) rfl rfl (v := .func (.func 27) #[] #[.pointer (some ⟨p, 0, none⟩), .pointer (some ⟨p + 1, 0, none⟩)]) rfl rfl (by kernel_rfl) ?_)
  obtain ⟨w2, hw2⟩ : ∃ w2, w2 = w1.alloc (.cells #[.func (.func 27) #[] #[.pointer (some ⟨p, 0, none⟩), .pointer (some ⟨p + 1, 0, none⟩)]] 22) := ⟨_, rfl⟩
  have HB2 := Lib.hid (show Below w.heap.size w w2 by rw [hw2]; exact HB1.out.alloc HB1.out.size _)
  have HC2 := Lib.hid (show Cap r b p (p + 1) w2 by rw [hw2]; exact HC1.out.stays (bW w1 _))
  rw [← hw2]
  clear hw2
  have kc := (HR.out.below HB2.out).cm.cell 1 _ rfl
  have kq := HC2.out.cq.cell
  rw [HNM.out] at kc
  go_wp2_with fail
  go_ret2
  exact ⟨rfl, HB2.out⟩
set_option maxRecDepth 100000 in
set_option maxHeartbeats 16000000 in
theorem letter_108 {s : ByteArray} {ext : Bool} {r b n : Nat} {c : CX} {w : World} (h : Rd s ext r (n : Int) w) (hc : Cm c b w) (hnm : c.name = 108) : Calls Try.prog 19 #[.pointer (some ⟨r, 0, none⟩), .pointer (some ⟨b, 0, none⟩)] w fun e w' => e = .returned (.tuple #[.int .i64 2, .func (.func 26) #[] #[]]) ∧ Below w.heap.size w w' := by
  have HR := Lib.hid (RC.start h hc)
  have HRL := Lib.hid h.lt
  have HBL := Lib.hid hc.lt
  have HNM := Lib.hid hnm
  clear h hc hnm
  go_enter Try.func19, Try.ntmps19
  go_upto_region 1 with fail
  obtain ⟨p, hp⟩ : ∃ p, p = w.heap.size := ⟨_, rfl⟩
  obtain ⟨w1, hw1⟩ : ∃ w1, w1 = (w.alloc (.cells #[.pointer (some ⟨r, 0, none⟩)] 52)).alloc (.cells #[.pointer (some ⟨b, 0, none⟩)] 51) := ⟨_, rfl⟩
  have HC1 := Lib.hid (show Cap r b p (p + 1) w1 by rw [hp, hw1]; exact ⟨heap_alloc2_old w _ _, heap_alloc2_new w _ _⟩)
  have HB1 := Lib.hid (show Below w.heap.size w w1 by rw [hw1]; exact (bW w _).trans ((bW _ _).mono (by rw [World.size_alloc]; omega)))
  rw [← hw1, ← hp]
  clear hp hw1
  go_upto_region 3 with (refine wpList_put1 rfl 22 (.tmp 7) (.tmp 11) rfl rfl (v := .func (.func 27) #[] #[.pointer (some ⟨p, 0, none⟩), .pointer (some ⟨p + 1, 0, none⟩)]) rfl rfl (by kernel_rfl) ?_)
  obtain ⟨w2, hw2⟩ : ∃ w2, w2 = w1.alloc (.cells #[.func (.func 27) #[] #[.pointer (some ⟨p, 0, none⟩), .pointer (some ⟨p + 1, 0, none⟩)]] 22) := ⟨_, rfl⟩
  have HB2 := Lib.hid (show Below w.heap.size w w2 by rw [hw2]; exact HB1.out.alloc HB1.out.size _)
  have HC2 := Lib.hid (show Cap r b p (p + 1) w2 by rw [hw2]; exact HC1.out.stays (bW w1 _))
  rw [← hw2]
  clear hw2
  have kc := (HR.out.below HB2.out).cm.cell 1 _ rfl
  have kq := HC2.out.cq.cell
  rw [HNM.out] at kc
  go_wp2_with fail
  go_ret2
  exact ⟨rfl, HB2.out⟩
set_option maxRecDepth 100000 in
set_option maxHeartbeats 16000000 in
theorem letter_110 {s : ByteArray} {ext : Bool} {r b n : Nat} {c : CX} {w : World} (h : Rd s ext r (n : Int) w) (hc : Cm c b w) (hnm : c.name = 110) : Calls Try.prog 19 #[.pointer (some ⟨r, 0, none⟩), .pointer (some ⟨b, 0, none⟩)] w fun e w' => e = .returned (.tuple #[.int .i64 2, .func (.func 26) #[] #[]]) ∧ Below w.heap.size w w' := by
  have HR := Lib.hid (RC.start h hc)
  have HRL := Lib.hid h.lt
  have HBL := Lib.hid hc.lt
  have HNM := Lib.hid hnm
  clear h hc hnm
  go_enter Try.func19, Try.ntmps19
  go_upto_region 1 with fail
  obtain ⟨p, hp⟩ : ∃ p, p = w.heap.size := ⟨_, rfl⟩
  obtain ⟨w1, hw1⟩ : ∃ w1, w1 = (w.alloc (.cells #[.pointer (some ⟨r, 0, none⟩)] 52)).alloc (.cells #[.pointer (some ⟨b, 0, none⟩)] 51) := ⟨_, rfl⟩
  have HC1 := Lib.hid (show Cap r b p (p + 1) w1 by rw [hp, hw1]; exact ⟨heap_alloc2_old w _ _, heap_alloc2_new w _ _⟩)
  have HB1 := Lib.hid (show Below w.heap.size w w1 by rw [hw1]; exact (bW w _).trans ((bW _ _).mono (by rw [World.size_alloc]; omega)))
  rw [← hw1, ← hp]
  clear hp hw1
  go_upto_region 3 with (refine wpList_put1 rfl 22 (.tmp 7) (.tmp 11) rfl rfl (v := .func (.func 27) #[] #[.pointer (some ⟨p, 0, none⟩), .pointer (some ⟨p + 1, 0, none⟩)]) rfl rfl (by kernel_rfl) ?_)
  obtain ⟨w2, hw2⟩ : ∃ w2, w2 = w1.alloc (.cells #[.func (.func 27) #[] #[.pointer (some ⟨p, 0, none⟩), .pointer (some ⟨p + 1, 0, none⟩)]] 22) := ⟨_, rfl⟩
  have HB2 := Lib.hid (show Below w.heap.size w w2 by rw [hw2]; exact HB1.out.alloc HB1.out.size _)
  have HC2 := Lib.hid (show Cap r b p (p + 1) w2 by rw [hw2]; exact HC1.out.stays (bW w1 _))
  rw [← hw2]
  clear hw2
  have kc := (HR.out.below HB2.out).cm.cell 1 _ rfl
  have kq := HC2.out.cq.cell
  rw [HNM.out] at kc
  go_wp2_with fail
  go_ret2
  exact ⟨rfl, HB2.out⟩
set_option maxRecDepth 100000 in
set_option maxHeartbeats 16000000 in
theorem letter_78 {s : ByteArray} {ext : Bool} {r b n : Nat} {c : CX} {w : World} (h : Rd s ext r (n : Int) w) (hc : Cm c b w) (hnm : c.name = 78) : Calls Try.prog 19 #[.pointer (some ⟨r, 0, none⟩), .pointer (some ⟨b, 0, none⟩)] w fun e w' => e = .returned (.tuple #[.int .i64 2, .func (.func 26) #[] #[]]) ∧ Below w.heap.size w w' := by
  have HR := Lib.hid (RC.start h hc)
  have HRL := Lib.hid h.lt
  have HBL := Lib.hid hc.lt
  have HNM := Lib.hid hnm
  clear h hc hnm
  go_enter Try.func19, Try.ntmps19
  go_upto_region 1 with fail
  obtain ⟨p, hp⟩ : ∃ p, p = w.heap.size := ⟨_, rfl⟩
  obtain ⟨w1, hw1⟩ : ∃ w1, w1 = (w.alloc (.cells #[.pointer (some ⟨r, 0, none⟩)] 52)).alloc (.cells #[.pointer (some ⟨b, 0, none⟩)] 51) := ⟨_, rfl⟩
  have HC1 := Lib.hid (show Cap r b p (p + 1) w1 by rw [hp, hw1]; exact ⟨heap_alloc2_old w _ _, heap_alloc2_new w _ _⟩)
  have HB1 := Lib.hid (show Below w.heap.size w w1 by rw [hw1]; exact (bW w _).trans ((bW _ _).mono (by rw [World.size_alloc]; omega)))
  rw [← hw1, ← hp]
  clear hp hw1
  go_upto_region 3 with (refine wpList_put1 rfl 22 (.tmp 7) (.tmp 11) rfl rfl (v := .func (.func 27) #[] #[.pointer (some ⟨p, 0, none⟩), .pointer (some ⟨p + 1, 0, none⟩)]) rfl rfl (by kernel_rfl) ?_)
  obtain ⟨w2, hw2⟩ : ∃ w2, w2 = w1.alloc (.cells #[.func (.func 27) #[] #[.pointer (some ⟨p, 0, none⟩), .pointer (some ⟨p + 1, 0, none⟩)]] 22) := ⟨_, rfl⟩
  have HB2 := Lib.hid (show Below w.heap.size w w2 by rw [hw2]; exact HB1.out.alloc HB1.out.size _)
  have HC2 := Lib.hid (show Cap r b p (p + 1) w2 by rw [hw2]; exact HC1.out.stays (bW w1 _))
  rw [← hw2]
  clear hw2
  have kc := (HR.out.below HB2.out).cm.cell 1 _ rfl
  have kq := HC2.out.cq.cell
  rw [HNM.out] at kc
  go_wp2_with fail
  go_ret2
  exact ⟨rfl, HB2.out⟩
set_option maxRecDepth 100000 in
set_option maxHeartbeats 16000000 in
theorem letter_112 {s : ByteArray} {ext : Bool} {r b n : Nat} {c : CX} {w : World} (h : Rd s ext r (n : Int) w) (hc : Cm c b w) (hnm : c.name = 112) : Calls Try.prog 19 #[.pointer (some ⟨r, 0, none⟩), .pointer (some ⟨b, 0, none⟩)] w fun e w' => e = .returned (.tuple #[.int .i64 2, .func (.func 26) #[] #[]]) ∧ Below w.heap.size w w' := by
  have HR := Lib.hid (RC.start h hc)
  have HRL := Lib.hid h.lt
  have HBL := Lib.hid hc.lt
  have HNM := Lib.hid hnm
  clear h hc hnm
  go_enter Try.func19, Try.ntmps19
  go_upto_region 1 with fail
  obtain ⟨p, hp⟩ : ∃ p, p = w.heap.size := ⟨_, rfl⟩
  obtain ⟨w1, hw1⟩ : ∃ w1, w1 = (w.alloc (.cells #[.pointer (some ⟨r, 0, none⟩)] 52)).alloc (.cells #[.pointer (some ⟨b, 0, none⟩)] 51) := ⟨_, rfl⟩
  have HC1 := Lib.hid (show Cap r b p (p + 1) w1 by rw [hp, hw1]; exact ⟨heap_alloc2_old w _ _, heap_alloc2_new w _ _⟩)
  have HB1 := Lib.hid (show Below w.heap.size w w1 by rw [hw1]; exact (bW w _).trans ((bW _ _).mono (by rw [World.size_alloc]; omega)))
  rw [← hw1, ← hp]
  clear hp hw1
  go_upto_region 3 with (refine wpList_put1 rfl 22 (.tmp 7) (.tmp 11) rfl rfl (v := .func (.func 27) #[] #[.pointer (some ⟨p, 0, none⟩), .pointer (some ⟨p + 1, 0, none⟩)]) rfl rfl (by kernel_rfl) ?_)
  obtain ⟨w2, hw2⟩ : ∃ w2, w2 = w1.alloc (.cells #[.func (.func 27) #[] #[.pointer (some ⟨p, 0, none⟩), .pointer (some ⟨p + 1, 0, none⟩)]] 22) := ⟨_, rfl⟩
  have HB2 := Lib.hid (show Below w.heap.size w w2 by rw [hw2]; exact HB1.out.alloc HB1.out.size _)
  have HC2 := Lib.hid (show Cap r b p (p + 1) w2 by rw [hw2]; exact HC1.out.stays (bW w1 _))
  rw [← hw2]
  clear hw2
  have kc := (HR.out.below HB2.out).cm.cell 1 _ rfl
  have kq := HC2.out.cq.cell
  rw [HNM.out] at kc
  go_wp2_with fail
  go_ret2
  exact ⟨rfl, HB2.out⟩
set_option maxRecDepth 100000 in
set_option maxHeartbeats 16000000 in
theorem letter_80 {s : ByteArray} {ext : Bool} {r b n : Nat} {c : CX} {w : World} (h : Rd s ext r (n : Int) w) (hc : Cm c b w) (hnm : c.name = 80) : Calls Try.prog 19 #[.pointer (some ⟨r, 0, none⟩), .pointer (some ⟨b, 0, none⟩)] w fun e w' => e = .returned (.tuple #[.int .i64 2, .func (.func 26) #[] #[]]) ∧ Below w.heap.size w w' := by
  have HR := Lib.hid (RC.start h hc)
  have HRL := Lib.hid h.lt
  have HBL := Lib.hid hc.lt
  have HNM := Lib.hid hnm
  clear h hc hnm
  go_enter Try.func19, Try.ntmps19
  go_upto_region 1 with fail
  obtain ⟨p, hp⟩ : ∃ p, p = w.heap.size := ⟨_, rfl⟩
  obtain ⟨w1, hw1⟩ : ∃ w1, w1 = (w.alloc (.cells #[.pointer (some ⟨r, 0, none⟩)] 52)).alloc (.cells #[.pointer (some ⟨b, 0, none⟩)] 51) := ⟨_, rfl⟩
  have HC1 := Lib.hid (show Cap r b p (p + 1) w1 by rw [hp, hw1]; exact ⟨heap_alloc2_old w _ _, heap_alloc2_new w _ _⟩)
  have HB1 := Lib.hid (show Below w.heap.size w w1 by rw [hw1]; exact (bW w _).trans ((bW _ _).mono (by rw [World.size_alloc]; omega)))
  rw [← hw1, ← hp]
  clear hp hw1
  go_upto_region 3 with (refine wpList_put1 rfl 22 (.tmp 7) (.tmp 11) rfl rfl (v := .func (.func 27) #[] #[.pointer (some ⟨p, 0, none⟩), .pointer (some ⟨p + 1, 0, none⟩)]) rfl rfl (by kernel_rfl) ?_)
  obtain ⟨w2, hw2⟩ : ∃ w2, w2 = w1.alloc (.cells #[.func (.func 27) #[] #[.pointer (some ⟨p, 0, none⟩), .pointer (some ⟨p + 1, 0, none⟩)]] 22) := ⟨_, rfl⟩
  have HB2 := Lib.hid (show Below w.heap.size w w2 by rw [hw2]; exact HB1.out.alloc HB1.out.size _)
  have HC2 := Lib.hid (show Cap r b p (p + 1) w2 by rw [hw2]; exact HC1.out.stays (bW w1 _))
  rw [← hw2]
  clear hw2
  have kc := (HR.out.below HB2.out).cm.cell 1 _ rfl
  have kq := HC2.out.cq.cell
  rw [HNM.out] at kc
  go_wp2_with fail
  go_ret2
  exact ⟨rfl, HB2.out⟩
set_option maxRecDepth 100000 in
set_option maxHeartbeats 16000000 in
theorem letter_120 {s : ByteArray} {ext : Bool} {r b n : Nat} {c : CX} {w : World} (h : Rd s ext r (n : Int) w) (hc : Cm c b w) (hnm : c.name = 120) : Calls Try.prog 19 #[.pointer (some ⟨r, 0, none⟩), .pointer (some ⟨b, 0, none⟩)] w fun e w' => e = .returned (.tuple #[.int .i64 2, .func (.func 26) #[] #[]]) ∧ Below w.heap.size w w' := by
  have HR := Lib.hid (RC.start h hc)
  have HRL := Lib.hid h.lt
  have HBL := Lib.hid hc.lt
  have HNM := Lib.hid hnm
  clear h hc hnm
  go_enter Try.func19, Try.ntmps19
  go_upto_region 1 with fail
  obtain ⟨p, hp⟩ : ∃ p, p = w.heap.size := ⟨_, rfl⟩
  obtain ⟨w1, hw1⟩ : ∃ w1, w1 = (w.alloc (.cells #[.pointer (some ⟨r, 0, none⟩)] 52)).alloc (.cells #[.pointer (some ⟨b, 0, none⟩)] 51) := ⟨_, rfl⟩
  have HC1 := Lib.hid (show Cap r b p (p + 1) w1 by rw [hp, hw1]; exact ⟨heap_alloc2_old w _ _, heap_alloc2_new w _ _⟩)
  have HB1 := Lib.hid (show Below w.heap.size w w1 by rw [hw1]; exact (bW w _).trans ((bW _ _).mono (by rw [World.size_alloc]; omega)))
  rw [← hw1, ← hp]
  clear hp hw1
  go_upto_region 3 with (refine wpList_put1 rfl 22 (.tmp 7) (.tmp 11) rfl rfl (v := .func (.func 27) #[] #[.pointer (some ⟨p, 0, none⟩), .pointer (some ⟨p + 1, 0, none⟩)]) rfl rfl (by kernel_rfl) ?_)
  obtain ⟨w2, hw2⟩ : ∃ w2, w2 = w1.alloc (.cells #[.func (.func 27) #[] #[.pointer (some ⟨p, 0, none⟩), .pointer (some ⟨p + 1, 0, none⟩)]] 22) := ⟨_, rfl⟩
  have HB2 := Lib.hid (show Below w.heap.size w w2 by rw [hw2]; exact HB1.out.alloc HB1.out.size _)
  have HC2 := Lib.hid (show Cap r b p (p + 1) w2 by rw [hw2]; exact HC1.out.stays (bW w1 _))
  rw [← hw2]
  clear hw2
  have kc := (HR.out.below HB2.out).cm.cell 1 _ rfl
  have kq := HC2.out.cq.cell
  rw [HNM.out] at kc
  go_wp2_with fail
  go_ret2
  exact ⟨rfl, HB2.out⟩
def LetS (r b : Nat) (w : World) (e : Ending) (w' : World) : Prop := ∃ p q : Nat, e = .returned (.tuple #[.int .i64 2, .func (.func 34) #[] #[.pointer (some ⟨p, 0, none⟩), .pointer (some ⟨q, 0, none⟩)]]) ∧ Below w.heap.size w w' ∧ Cap r b p q w'
set_option maxRecDepth 100000 in
set_option maxHeartbeats 16000000 in
theorem letter_s {s : ByteArray} {ext : Bool} {r b n : Nat} {c : CX} {w : World} (h : Rd s ext r (n : Int) w) (hc : Cm c b w) (hnm : c.name = 115) : Calls Try.prog 19 #[.pointer (some ⟨r, 0, none⟩), .pointer (some ⟨b, 0, none⟩)] w (LetS r b w) := by
  unfold LetS
  have HR := Lib.hid (RC.start h hc)
  have HRL := Lib.hid h.lt
  have HBL := Lib.hid hc.lt
  have HNM := Lib.hid hnm
  clear h hc hnm
  go_enter Try.func19, Try.ntmps19
  go_upto_region 1 with fail
  obtain ⟨p, hp⟩ : ∃ p, p = w.heap.size := ⟨_, rfl⟩
  obtain ⟨w1, hw1⟩ : ∃ w1, w1 = (w.alloc (.cells #[.pointer (some ⟨r, 0, none⟩)] 52)).alloc (.cells #[.pointer (some ⟨b, 0, none⟩)] 51) := ⟨_, rfl⟩
  have HC1 := Lib.hid (show Cap r b p (p + 1) w1 by rw [hp, hw1]; exact ⟨heap_alloc2_old w _ _, heap_alloc2_new w _ _⟩)
  have HB1 := Lib.hid (show Below w.heap.size w w1 by rw [hw1]; exact (bW w _).trans ((bW _ _).mono (by rw [World.size_alloc]; omega)))
  rw [← hw1, ← hp]
  clear hp hw1
  go_upto_region 3 with (refine wpList_put1 rfl 22 (.tmp 7) (.tmp 11) rfl rfl (v := .func (.func 27) #[] #[.pointer (some ⟨p, 0, none⟩), .pointer (some ⟨p + 1, 0, none⟩)]) rfl rfl (by kernel_rfl) ?_)
  obtain ⟨w2, hw2⟩ : ∃ w2, w2 = w1.alloc (.cells #[.func (.func 27) #[] #[.pointer (some ⟨p, 0, none⟩), .pointer (some ⟨p + 1, 0, none⟩)]] 22) := ⟨_, rfl⟩
  have HB2 := Lib.hid (show Below w.heap.size w w2 by rw [hw2]; exact HB1.out.alloc HB1.out.size _)
  have HC2 := Lib.hid (show Cap r b p (p + 1) w2 by rw [hw2]; exact HC1.out.stays (bW w1 _))
  rw [← hw2]
  clear hw2
  have kc := (HR.out.below HB2.out).cm.cell 1 _ rfl
  have kq := HC2.out.cq.cell
  rw [HNM.out] at kc
  go_wp2_with fail
  go_ret2
  exact ⟨p, p + 1, rfl, HB2.out, HC2.out⟩
end Go.Proofs.Ytncbmdbfdjhkeaa
