/-
 ReplaceLong's walk. Conditions: whole numbers of 64 bits; the world holds what strings.Index asks, and the table of de Bruijn's numbers.
-/
import Derived.Test.YtflkfleihlceeaaGreatDoorR22
import Derived.Deep.Cut
namespace Go.Proofs.YtflkfleihlceeaaGreatDoor
open Go.RowKit Go.Deep Go.Sort

set_option maxRecDepth 100000 in
theorem a_parse (bk : BkF) : parseP bk false [97] = some (litN 97) := by kernel_rfl
def aas (n : Nat) : List UInt8 := List.replicate n 97
theorem aas_pos : ∀ (n k : Nat), (posF k (aas n)).length = n
 | 0, _ => rfl
 | n + 1, k => by
  show (posF k (97 :: aas n)).length = n + 1;simp only [posF, if_true, List.length_cons];rw [aas_pos n]
theorem aas_out (g : List UInt8) : ∀ (n k : Nat), (outS (fun _ => true) g k (aas n)).length = n * g.length
 | 0, _ => by simp [aas, outS]
 | n + 1, k => by
  show (outS (fun _ => true) g k (97 :: aas n)).length = _;simp only [outS, if_true, List.length_append];rw [aas_out g n, Nat.succ_mul, Nat.add_comm]
theorem long_rep {n m : Nat} {X : ByteArray} {w w' : World} {e : Ending} (h : RepAns (litN 97) [(X, -1), (⟨#[]⟩, 0)] (txt (aas n)) 1 true w e w') (hn : n <= 1024) (hX : X.data.toList.length = m) : Below w.heap.size w w' ∧
  ((n * (m + 1) <= 1024 /\ ∃ u : ByteArray, u.size = n * (m + 1) /\ e = .returned (.tuple #[.string u, .int .i64 (n : Int), .int .i64 0])) \/ (1024 < n * (m + 1) /\ e = .returned (.tuple #[.string ⟨#[]⟩, .int .i64 0, .int .i64 161]))) := by
 obtain ⟨hb, h⟩ := h;refine ⟨hb, ?_⟩;have hT : (txt (aas n)).data.toList = aas n := (by simp [txt]);have hl : (aas n).length = n := (by simp [aas]);rw [hT] at h;rcases h with ⟨h, _⟩ | ⟨_, h, _⟩ | ⟨_, _, ms, hm, h⟩
 ·omega
 ·rw [size_txt, hl] at h;omega
 ·have hms := matL_det hm (a_matL (T := aas n) (by omega) (aas n) 0 0 (-1) rfl (Nat.zero_le _) (Int.le_refl _) (by omega) (fun i hi hik => by omega) (by omega));have hc : choP (1 : Int).toNat true ms = ms := rfl;rw [hc] at h
  have hf : ∀ p : Nat, (aas n)[p]? = some 97 -> fillF (txt (aas n)) [(X, -1), (⟨#[]⟩, 0)] (spA (aas n) p) = X.data.toList ++ [97] := fun p hp => by
   have hpl := (List.getElem?_eq_some_iff.1 hp).1;have h1 : fillF (txt (aas n)) [(X, -1), (⟨#[]⟩, 0)] (spA (aas n) p) = X.data.toList ++ (covP (txt (aas n)) (spA (aas n) p 0)).data.toList := (by simp [fillF, flatB, pieP]);rw [h1, spA_zero, cov_part (by omega) (by rw [size_txt]; omega), hT, List.take_add_one, hp, List.drop_append_of_le_length (by simp; omega), List.drop_eq_nil_of_le (by rw [List.length_take]; exact Nat.min_le_left _ _)];rfl
  have hr : repF (aas n) (fillF (txt (aas n)) [(X, -1), (⟨#[]⟩, 0)]) 0 ms = outS (fun _ => true) (X.data.toList ++ [97]) 0 (aas n) := by
   rw [hms, <- posS_all (aas n) 0 0, rep_outS hf (aas n) 0 0 0 rfl (Nat.zero_le _) (nlr _)];rfl
  have hz : (outS (fun _ => true) (X.data.toList ++ [97]) 0 (aas n)).length = n * (m + 1) := (by rw [aas_out, List.length_append, hX]; rfl);have hlen : ms.length = n := (by rw [hms, List.length_map, aas_pos]);rw [hr, hz, hlen] at h;rcases h with ⟨h1, h2⟩ | ⟨h1, h2⟩
  ·exact .inl ⟨h1, _, by rw [size_txt, hz], h2⟩
  ·exact .inr ⟨h1, h2⟩
set_option maxRecDepth 100000 in
set_option maxHeartbeats 8000000 in
theorem long_any (n more : Int) (w : World) (hn : -9223372036854775808 <= n /\ n <= 9223372036854775807) (hm : -9223372036854775808 <= more /\ more <= 9223372036854775807) (hM : MaxAt w) (hD : DebAt w) : Calls Tryz.prog 12 #[.int .i64 n, .int .i64 more] w (TrueC w) := by
 have HA := lh fun (W : World) (hW : Below w.heap.size w W) => alive11_is W (hM.below hW) (hD.below hW);have HP := lh (parse_some (s := ⟨#[97]⟩) (ext := false) (t := litN 97) (a_parse bkOf) w hM);have HD := lh hD;have H0 := lh (St.start w);clear hM hD;obtain ⟨a, ha⟩ : ∃ a : Nat, (a : Int) = if n < 0 then -(n + 1) else n := ⟨(if n < 0 then -(n + 1) else n).toNat, by split <;> omega⟩;obtain ⟨c, hc⟩ : ∃ c : Nat, (c : Int) = if more < 0 then -(more + 1) else more := ⟨(if more < 0 then -(more + 1) else more).toNat, by split <;> omega⟩;go_enter Tryz.func12, Tryz.ntmps12
 go_upto_if 13 with fail
 go_cut [0] from 14 to 16 (fun v wx => v = .int .i64 (a : Int) /\ wx = w)
 case first =>
  by_cases h : n < 0
  ·have d1 : decide (n < 0) = true := dqt h;rw [if_pos h] at ha;have w1 : IntKind.i64.wrap (n + 1) = n + 1 := IntWalk.i64_in _ (by omega);have w2 : IntKind.i64.wrap (-(n + 1)) = (a : Int) := (by rw [IntWalk.i64_in _ (by omega)]; omega);clear ha hc;go_wp2_with fail;go_meet
   case rel => exact ⟨rfl, rfl⟩
  ·have d1 : decide (n < 0) = false := dqf h;rw [if_neg h] at ha;subst ha;clear hc;go_wp2_with fail;go_meet
   case rel => exact ⟨rfl, rfl⟩
 obtain ⟨rfl, rfl⟩ := hcut;obtain ⟨k, hk⟩ : ∃ k, k = a % 1024 := ⟨_, rfl⟩;have hk1 : k < 1024 := (by rw [hk]; exact Nat.mod_lt _ (by omega));have hmod : (a : Int).tmod 1024 = (k : Int) := (by rw [hk]; rfl);obtain ⟨N, hN⟩ : ∃ N, N = 1 + k := ⟨_, rfl⟩;have hadd : IntKind.i64.wrap (1 + (k : Int)) = (N : Int) := (by rw [IntWalk.i64_in _ (by omega)]; omega);have HNN := lh (show 1 <= N /\ N <= 1024 by omega);clear ha hn hk hk1 hN
 go_upto_if 21 with fail
 clear hmod hadd;go_cut [1] from 22 to 24 (fun v wx => v = .int .i64 (c : Int) /\ wx = wc)
 case first =>
  by_cases h : more < 0
  ·have d1 : decide (more < 0) = true := dqt h;rw [if_pos h] at hc;have w1 : IntKind.i64.wrap (more + 1) = more + 1 := IntWalk.i64_in _ (by omega);have w2 : IntKind.i64.wrap (-(more + 1)) = (c : Int) := (by rw [IntWalk.i64_in _ (by omega)]; omega);clear hc;go_wp2_with fail;go_meet
   case rel => exact ⟨rfl, rfl⟩
  ·have d1 : decide (more < 0) = false := dqf h;rw [if_neg h] at hc;subst hc;go_wp2_with fail;go_meet
   case rel => exact ⟨rfl, rfl⟩
 obtain ⟨rfl, rfl⟩ := hcut;obtain ⟨M, hM⟩ : ∃ M, M = c % 3 := ⟨_, rfl⟩;have hM1 : M < 3 := (by rw [hM]; exact Nat.mod_lt _ (by omega));have hmod : (c : Int).tmod 3 = (M : Int) := (by rw [hM]; rfl);have HMM := lh hM1;clear hc hm hM hM1;go_wp2_with fail;clear hmod;go_loopw [5] (fun tv wz => ∃ m : Nat, tv = .string (txt (aas m)) /\ m <= N /\ wz = wc) (fun tv _ => N + 1 - strLen1 tv)
 case atStart => exact ⟨0, rfl, Nat.zero_le _, rfl⟩
 case round =>
  obtain ⟨m, rfl, hm, hwe⟩ := hrel;replace hwe := hwe.symm;subst hwe;have hN := HNN.out;obtain ⟨S, hS⟩ : ∃ S, S = txt (aas m) := ⟨_, rfl⟩;have hz : S.size = m := (by rw [hS, size_txt]; simp [aas]);rw [<- hS];by_cases hlt : m < N
  case pos =>
   have d1 : decide ((S.size : Int) < (N : Int)) = true := dqt (by omega);have d1n : decide (S.size < N) = true := dqt (by omega);have d1p : (S.size : Int) < (N : Int) := (by omega)
   have hcat : S ++ (⟨#[97]⟩ : ByteArray) = txt (aas (m + 1)) := by
    have h1 : (⟨#[97]⟩ : ByteArray) = txt [97] := rfl;have h2 : (txt (aas m) ++ txt [97]).data = (txt (aas m ++ [97])).data := (by simp [txt, ByteArray.data_append])
    have h3 : txt (aas m) ++ txt [97] = txt (aas m ++ [97]) := by
     cases h : txt (aas m) ++ txt [97]
     rw [h] at h2;simp only at h2;rw [h2]
    rw [hS, h1, h3]
    congr 1
    simp [aas, List.replicate_succ']
   obtain ⟨S1, hS1⟩ : ∃ S1, S1 = txt (aas (m + 1)) := ⟨_, rfl⟩;rw [<- hS1] at hcat;have hs9 : S.size <= 1024 := (by omega);have HR := lh (aI hS1 (aI hlt (aI hz (show S1.size = m + 1 by rw [hS1, size_txt]; simp [aas]))));clear hS hz hlt hS1 hm hN;go_wp2_with fail;go_roundw
   case rel => exact ⟨m + 1, by rw [HR.out.1], HR.out.2.1, trivial⟩
   case measure =>
    have := HR.out;show N + 1 - S1.size < N + 1 - S.size;omega
  case neg =>
   obtain rfl : m = N := (by omega);have d1 : decide ((S.size : Int) < (m : Int)) = false := dqf (by omega);have d1n : decide (S.size < m) = false := dqf (by omega);have d1p : (m : Int) <= (S.size : Int) := (by omega);have HSS := lh hS;clear hlt hS hz hm hN;go_wp2_with fail;go_at_call 18;refine HP.out.mono ?_;rintro e w1 ⟨y, rfl, hy, hb1⟩;obtain ⟨W, hW⟩ : ∃ W, W = w1.alloc (.cells #[.int .i64 y.kind, .int .u64 (y.set 0), .int .u64 (y.set 1), .int .u64 (y.set 2), .int .u64 (y.set 3), .int .i64 y.lo, .int .i64 y.hi, .int .i64 y.num, .slice y.A y.n y.c] 28) := ⟨_, rfl⟩;obtain ⟨b1, hb1'⟩ : ∃ b, b = w1.heap.size := ⟨_, rfl⟩;have H1 := lh (show St wc W [(b1, #[.int .i64 y.kind, .int .u64 (y.set 0), .int .u64 (y.set 1), .int .u64 (y.set 2), .int .u64 (y.set 3), .int .i64 y.lo, .int .i64 y.hi, .int .i64 y.num, .slice y.A y.n y.c], 28)] [(litN 97, y)] from by rw [hW, hb1']; exact ((St.start wc).next hb1 |>.tree hy).box _ _);rw [NV.v_eq];clear hy hb1 d1 d1n d1p;go_upto_region 11 with fail;rw [<- hW, <- hb1'];clear hW hb1';obtain ⟨X, hX⟩ : ∃ X, X = (⟨#[97, 97, 97]⟩ : ByteArray).extract 0 M := ⟨_, rfl⟩
   have hXl : X.data.toList.length = M := by
    have := HMM.out;rw [hX, ext_part];have h3 : M = 0 \/ M = 1 \/ M = 2 := (by omega);rcases h3 with rfl | rfl | rfl <;> rfl
   have hx := hX.symm;have gm0 : (0 : Int) <= (M : Int) := (by omega);have gm3 : (M : Int) <= 3 := (by have := HMM.out; omega);have gm3n : M <= 3 := (by have := HMM.out; omega);have HXL := lh hXl;clear hX hXl;go_upto_region 12 with fail;obtain ⟨W2, hW2⟩ : ∃ W2, W2 = W.alloc (.cells #[.string X, .int .i64 (-1), .string ⟨#[]⟩, .int .i64 0] 52) := ⟨_, rfl⟩;obtain ⟨b8, hb8⟩ : ∃ b, b = W.heap.size := ⟨_, rfl⟩;have H2 := lh (show St wc W2 [(b8, #[.string X, .int .i64 (-1), .string ⟨#[]⟩, .int .i64 0], 52), (b1, #[.int .i64 y.kind, .int .u64 (y.set 0), .int .u64 (y.set 1), .int .u64 (y.set 2), .int .u64 (y.set 3), .int .i64 y.lo, .int .i64 y.hi, .int .i64 y.num, .slice y.A y.n y.c], 28)] [(litN 97, y)] from by rw [hW2, hb8]; exact H1.out.box _ _);rw [<- hW2, <- hb8];clear hW2 hb8 hx;obtain ⟨e0, e1, e2, e3, e4, e5, e6, e7, e8⟩ := node_box (H2.out.ob 1 rfl);have hle := lts (H2.out.ob 1 rfl);have HR := lh (show Calls Tryz.prog 22 #[.agg #[.int .i64 y.kind, .int .u64 (y.set 0), .int .u64 (y.set 1), .int .u64 (y.set 2), .int .u64 (y.set 3), .int .i64 y.lo, .int .i64 y.hi, .int .i64 y.num, .slice y.A y.n y.c], .slice (some ⟨b8, 0, none⟩) 2 2, .string S, .int .i64 1, .bool true] W2 (RepAns (litN 97) [(X, -1), (⟨#[]⟩, 0)] S 1 true W2) from rep_at (xs := [(X, -1), (⟨#[]⟩, 0)]) H2.out HD.out (by decide) (H2.out.ob 0 rfl) rfl (show (2 : Nat) <= 1000000 by omega) S _ _);go_wp2_with fail;go_at_call 22;refine HR.out.mono ?_;intro e w3 h3;rw [HSS.out] at h3;obtain ⟨hb3, h3⟩ := long_rep h3 HNN.out.2 HXL.out;have H3 := lh (H2.out.next hb3);obtain ⟨M1, hM1⟩ : ∃ M1, M1 = M + 1 := ⟨_, rfl⟩;have hs1 : IntKind.i64.wrap (1 + (M : Int)) = (M1 : Int) := (by rw [IntWalk.i64_in _ (by omega)]; omega);rw [<- hM1] at h3;obtain ⟨P, hP⟩ : ∃ P, P = m * M1 := ⟨_, rfl⟩;rw [<- hP] at h3
   have hP2 : P <= 3072 := by
    rw [hP];have h5 := HMM.out;have h6 := HNN.out.2;exact Nat.le_trans (Nat.mul_le_mul h6 (show M1 <= 3 by omega)) (by decide)
   have hmul : IntKind.i64.wrap ((m : Int) * (M1 : Int)) = (P : Int) := by
    rw [<- Int.natCast_mul, <- hP, IntWalk.i64_in _ (by omega)]
   clear hb3 hM1 hP e0 e1 e2 e3 e4 e5 e6 e7 e8 hle HR gm0 gm3 gm3n;rcases h3 with ⟨hle, u, hu, rfl⟩ | ⟨hgt, rfl⟩
   ·have d1 : decide ((1024 : Int) < (P : Int)) = false := dqf (by omega);have d1n : decide (1024 < P) = false := dqf (by omega);have d1p : (P : Int) <= 1024 := (by omega);clear hle;go_wp2_with fail;go_at_call 21;with_reducible refine (HA.out _ H3.out.bel).mono ?_
    rintro e wz ⟨rfl, hb⟩;have HBB := lh (H3.out.bel.trans (hb.mono H3.out.bel.size));clear hb;go_wp2_with fail;go_ret;exact ⟨rfl, HBB.out⟩
   ·have d1 : decide ((1024 : Int) < (P : Int)) = true := dqt (by omega);have d1n : decide (1024 < P) = true := dqt hgt;have d1p : (1024 : Int) < (P : Int) := (by omega);clear hgt;go_wp2_with fail;go_at_call 21;with_reducible refine (HA.out _ H3.out.bel).mono ?_
    rintro e wz ⟨rfl, hb⟩;have HBB := lh (H3.out.bel.trans (hb.mono H3.out.bel.size));clear hb;go_wp2_with fail;go_ret;exact ⟨rfl, HBB.out⟩
end Go.Proofs.YtflkfleihlceeaaGreatDoor
