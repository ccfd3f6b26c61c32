/-
 The live question of package replace. Conditions: the world holds what strings.Index asks, and the table of de Bruijn's numbers.
-/
import Derived.Test.YtflkfleihlceeaaGreatDoorR16
namespace Go.Proofs.YtflkfleihlceeaaGreatDoor
open Go.RowKit Go.Deep Go.Shelf

theorem findR_mk {T : List UInt8} {t : PN} {fr : Int} {i z : Nat} (h0 : 0 <= fr) (hT : T.length <= 1024) (hfi : fr <= (i : Int)) (hz : semT T true t i z = true) (hzl : z <= T.length) (hlow : ∀ k, fr <= ((k : Nat) : Int) -> k < i -> ∀ j, j <= T.length -> semT T true t k j = false) (hmax : ∀ j, z < j -> j <= T.length -> semT T true t i j = false) : FindR T true t fr true (spM (evT T true t) i z) := by
 have hfit := fit_T T true t;have hiz := (hfit i z hz).1;refine .inr ⟨rfl, h0, hT, i, z, hfi, hzl, hz, fun k j hk hki => ?_, fun j hj => ?_, rfl⟩
 ·cases hq : semT T true t k j with
  | false => rfl
  | true =>
   have := hlow k hk hki j ((hfit k j hq).2 (by omega));rw [this] at hq;cases hq
 ·cases hq : semT T true t i j with
  | false => rfl
  | true =>
   have := hmax j hj ((hfit i j hq).2 (by omega));rw [this] at hq;cases hq
def repG (T : List UInt8) (g : Int × Int -> List UInt8) : Nat -> List (Int × Int) -> List UInt8
 | k, [] => T.drop k
 | k, p :: r => (T.take p.1.toNat).drop k ++ (g p ++ repG T g p.2.toNat r)
theorem repF_G {T : List UInt8} {f : Sp -> List UInt8} {g : Int × Int -> List UInt8} (h : ∀ sp, f sp = g (sp 0)) : ∀ (l : List Sp) (k : Nat), repF T f k l = repG T g k (l.map fun sp => sp 0)
 | [], _ => rfl
 | sp :: r, k => by
  unfold repF;rw [repF_G h r, h sp];rfl
def bT : PN := repN 0 (-1) (litN 98)
set_option maxRecDepth 100000 in
theorem b_parse (bk : BkF) : parseP bk false [98, 42] = some bT := by kernel_rfl
def aT : List UInt8 := [97, 98, 98, 99]
set_option maxRecDepth 100000 in
theorem a_sem : (List.range 5).all (fun i => (List.range 5).all fun j => semT aT true bT i j == ((i, j) == (0, 0) || (i, j) == (1, 1) || (i, j) == (1, 2) || (i, j) == (1, 3) || (i, j) == (2, 2) || (i, j) == (2, 3) || (i, j) == (3, 3) || (i, j) == (4, 4))) = true := by kernel_rfl
theorem a_at {i j : Nat} (hi : i <= 4) (hj : j <= 4) : semT aT true bT i j = ((i, j) == (0, 0) || (i, j) == (1, 1) || (i, j) == (1, 2) || (i, j) == (1, 3) || (i, j) == (2, 2) || (i, j) == (2, 3) || (i, j) == (3, 3) || (i, j) == (4, 4)) := by
 have h := List.all_eq_true.1 (List.all_eq_true.1 a_sem i (List.mem_range.2 (by omega))) j (List.mem_range.2 (by omega));simpa using h
theorem live_ms : ∃ a b c : Sp, MatL aT bT 0 (-1) [a, b, c] /\ a 0 = (0, 0) /\ b 0 = (1, 3) /\ c 0 = (4, 4) := by
 have hl : aT.length = 4 := rfl
 have f0 : FindR aT true bT 0 true (spM (evT aT true bT) 0 0) := findR_mk (by omega) (by rw [hl]; omega) (by omega) (by rw [a_at (by omega) (by omega)]; rfl) (by omega) (fun k _ hk => absurd hk (Nat.not_lt_zero k)) (fun j hj hjl => by
  rw [hl] at hjl;rw [a_at (by omega) hjl];have : j = 1 \/ j = 2 \/ j = 3 \/ j = 4 := (by omega)
  rcases this with rfl | rfl | rfl | rfl <;> rfl)
 have f1 : FindR aT true bT 1 true (spM (evT aT true bT) 1 3) := findR_mk (by omega) (by rw [hl]; omega) (by omega) (by rw [a_at (by omega) (by omega)]; rfl) (by rw [hl]; omega) (fun k hk hk2 => by omega) (fun j hj hjl => by
  rw [hl] at hjl;rw [a_at (by omega) hjl];have : j = 4 := (by omega);subst this
  rfl)
 have f3 : FindR aT true bT 3 true (spM (evT aT true bT) 3 3) := findR_mk (by omega) (by rw [hl]; omega) (by omega) (by rw [a_at (by omega) (by omega)]; rfl) (by rw [hl]; omega) (fun k hk hk2 => by omega) (fun j hj hjl => by
  rw [hl] at hjl;rw [a_at (by omega) hjl];have : j = 4 := (by omega);subst this
  rfl)
 have f4 : FindR aT true bT 4 true (spM (evT aT true bT) 4 4) := findR_mk (by omega) (by rw [hl]; omega) (by omega) (by rw [a_at (by omega) (by omega)]; rfl) (by rw [hl]; omega) (fun k hk hk2 => by omega) (fun j hj hjl => by
  rw [hl] at hjl
  omega)
 have z0 : spM (evT aT true bT) 0 0 0 = (0, 0) := spM_zero (nlr _);have z1 : spM (evT aT true bT) 1 3 0 = (1, 3) := spM_zero (by omega);have z3 : spM (evT aT true bT) 3 3 0 = (3, 3) := spM_zero (by omega);have z4 : spM (evT aT true bT) 4 4 0 = (4, 4) := spM_zero (by omega);refine ⟨_, _, _, .hit f0 (by rw [z0]; decide) ?_, z0, z1, z4⟩;rw [z0];refine .hit f1 (by rw [z1]; decide) ?_;rw [z1];refine .skip f3 (by rw [z3]; decide) ?_;rw [z3];refine .hit f4 (by rw [z4]; decide) ?_;rw [z4];exact .done (.inl ⟨rfl, rfl, .inr (.inl (by rw [hl]; decide))⟩)
def aPs : List Pc := [(⟨#[60]⟩, -1), (⟨#[]⟩, 0), (⟨#[62]⟩, -1)]
set_option maxRecDepth 100000 in
theorem a_tpl : tplF 3 [] [] [60, 38, 62] = some aPs := by kernel_rfl
theorem a_fill (s : ByteArray) (sp : Sp) : fillF s aPs sp = [60] ++ ((covP s (sp 0)).data.toList ++ [62]) := by simp [fillF, flatB, aPs, pieP]
set_option maxRecDepth 100000 in
theorem a_rep : repG aT (fun p => [60] ++ ((covP ⟨#[97, 98, 98, 99]⟩ p).data.toList ++ [62])) 0 [(0, 0), (1, 3), (4, 4)] = [60, 62, 97, 60, 98, 98, 62, 99, 60, 62] := by kernel_rfl
theorem live_rep {w w' : World} {e : Ending} (h : RepAns bT aPs ⟨#[97, 98, 98, 99]⟩ 1 true w e w') : Below w.heap.size w w' /\ e = .returned (.tuple #[.string ⟨#[60, 62, 97, 60, 98, 98, 62, 99, 60, 62]⟩, .int .i64 3, .int .i64 0]) := by
 obtain ⟨hb, h⟩ := h;refine ⟨hb, ?_⟩;rcases h with ⟨h, _⟩ | ⟨_, h, _⟩ | ⟨_, _, ms, hm, h⟩
 ·omega
 ·exact absurd h (by decide)
 ·obtain ⟨a, b, c, hl, ha, hb, hc⟩ := live_ms;have e1 : ms = [a, b, c] := matL_det hm hl;subst e1;have hcho : choP (1 : Int).toNat true [a, b, c] = [a, b, c] := rfl
  have hre : repF aT (fillF ⟨#[97, 98, 98, 99]⟩ aPs) 0 [a, b, c] = [60, 62, 97, 60, 98, 98, 62, 99, 60, 62] := by
   rw [repF_G (g := fun p => [60] ++ ((covP ⟨#[97, 98, 98, 99]⟩ p).data.toList ++ [62])) (fun sp => a_fill _ sp)];show repG aT _ 0 [a 0, b 0, c 0] = _;rw [ha, hb, hc];exact a_rep
  rw [hcho] at h;have hre2 : repF (⟨#[97, 98, 98, 99]⟩ : ByteArray).data.toList (fillF ⟨#[97, 98, 98, 99]⟩ aPs) 0 [a, b, c] = [60, 62, 97, 60, 98, 98, 62, 99, 60, 62] := hre;rw [hre2] at h;rcases h with ⟨_, h⟩ | ⟨h, _⟩
  ·exact h
  ·exact absurd h (by decide)
set_option maxRecDepth 100000 in
set_option maxHeartbeats 2000000 in
theorem alive11_is (w : World) (hM : MaxAt w) (hD : DebAt w) : Calls Tryz.prog 21 #[] w (TrueC w) := by
 have HP := lh (parse_some (s := ⟨#[98, 42]⟩) (ext := false) (t := bT) (b_parse bkOf) w hM);have HT := lh (fun W => tpl_is ⟨#[60, 38, 62]⟩ (by decide) W);have HD := lh hD;clear hM hD;go_enter Tryz.func21, Tryz.ntmps21;go_wp2_with fail;go_at_call 18;refine HP.out.mono ?_;rintro e w1 ⟨y, rfl, hy, hb1⟩;obtain ⟨W, hW⟩ : ∃ W, W = w1.alloc (.cells #[.int .i64 y.kind, .int .u64 (y.set 0), .int .u64 (y.set 1), .int .u64 (y.set 2), .int .u64 (y.set 3), .int .i64 y.lo, .int .i64 y.hi, .int .i64 y.num, .slice y.A y.n y.c] 28) := ⟨_, rfl⟩;obtain ⟨b1, hb1'⟩ : ∃ b, b = w1.heap.size := ⟨_, rfl⟩;have H1 := lh (show St w W [(b1, #[.int .i64 y.kind, .int .u64 (y.set 0), .int .u64 (y.set 1), .int .u64 (y.set 2), .int .u64 (y.set 3), .int .i64 y.lo, .int .i64 y.hi, .int .i64 y.num, .slice y.A y.n y.c], 28)] [(bT, y)] from by rw [hW, hb1']; exact ((St.start w).next hb1 |>.tree hy).box _ _);rw [NV.v_eq];clear hy hb1;go_upto_region 2 with fail;rw [<- hW, <- hb1'];clear hW hb1';go_wp2_with fail;go_at_call 24;refine (HT.out _).mono ?_;rintro e w2 h
 have h2 : Below W.heap.size W w2 /\ ∃ v, e = .returned (.tuple #[v, .int .i64 0]) /\ PcOwn w2 W.heap.size v aPs := by
  unfold TplA at h;rw [show tplF (⟨#[60, 38, 62]⟩ : ByteArray).size [] [] (⟨#[60, 38, 62]⟩ : ByteArray).data.toList = some aPs from a_tpl] at h;exact h
 obtain ⟨hb2, v, rfl, hv⟩ := h2;obtain ⟨A2, c2, rfl, _, hraw, _⟩ := own_form hv;have H2 := lh (H1.out.next hb2);obtain ⟨e0, e1, e2, e3, e4, e5, e6, e7, e8⟩ := node_box (H2.out.ob 0 rfl);have hle := lts (H2.out.ob 0 rfl);have hre := replace_is (w := w2) (t := bT) (y := y) (xs := aPs) (A := A2) (cl := c2) (s := ⟨#[97, 98, 98, 99]⟩) 1 true (H2.out.tr 0 rfl) (HD.out.below H2.out.bel) (by decide) hraw (by decide);rw [NV.v_eq] at hre;have HR := lh hre;clear h hb2 hv hraw hre;go_wp2_with fail;go_at_call 22;refine HR.out.mono ?_;intro e w3 h3;obtain ⟨hb3, rfl⟩ := live_rep h3;have H3 := lh (H2.out.bel.trans (hb3.mono H2.out.bel.size));clear h3 hb3 e0 e1 e2 e3 e4 e5 e6 e7 e8;go_wp2_with fail;go_ret;exact ⟨rfl, H3.out⟩
end Go.Proofs.YtflkfleihlceeaaGreatDoor
