/-
  The program's tokens: a pattern's text, cut into tokens. Conditions: Bracket's answers are told by a function of the text; a text of at most 4096 bytes; the world holds what strings.Index asks.
-/
import Derived.Test.YtbehbbmhkkidfaaPbas
import Derived.RegionCalls
namespace Go.Proofs.Ytbehbbmhkkidfaa
open Go.RowKit Go.Deep

def ToksP (o : Option (List Tok)) (w : World) (e : Ending) (w' : World) : Prop := match o with
  | none => e = .returned (.tuple #[.slice none 0 0, .bool false]) ∧ Below w.heap.size w w'
  | some ts => ∃ A c, e = .returned (.tuple #[.slice A ts.length c, .bool true]) ∧ ts.length ≤ c ∧ RawAt w' A (tsV ts) ∧ Below w.heap.size w w'
def strLen : Value → Nat
  | .string s => s.size
  | _ => 0
theorem toks_step {bk : BkF} {ext : Bool} {k : Nat} {ah : Int} {c : UInt8} {r : List UInt8} {T : Tok} {n : Nat} (hT : (T, n) = firstT bk ext ah (c :: r)) : toksF bk ext (k + 1) ah (c :: r) = if T.kind = 0 then none else (toksF bk ext k T.kind ((c :: r).drop n)).map (T :: ·) := by
  simp only [toksF]
  rw [← hT]
theorem toks_none {bk : BkF} {ext : Bool} {k : Nat} {ah : Int} {l : List UInt8} {acc : List Tok} {o : Option (List Tok)} (h : o = (toksF bk ext k ah l).map (acc ++ ·)) (h0 : toksF bk ext k ah l = none) : o = none := by rw [h, h0]; rfl
theorem toks_push {bk : BkF} {ext : Bool} {k : Nat} {ah : Int} {l l2 : List UInt8} {acc : List Tok} {T : Tok} {o : Option (List Tok)} (h : o = (toksF bk ext (k + 1) ah l).map (acc ++ ·)) (h0 : toksF bk ext (k + 1) ah l = (toksF bk ext k T.kind l2).map (T :: ·)) : o = (toksF bk ext k T.kind l2).map ((acc ++ [T]) ++ ·) := by
  rw [h, h0, Option.map_map]
  congr 1
  funext x
  simp
theorem tok_cells_v (T : Tok) : T.cells.toArray = #[.int .i64 T.kind, .int .u64 (T.set 0), .int .u64 (T.set 1), .int .u64 (T.set 2), .int .u64 (T.set 3), .int .i64 T.lo, .int .i64 T.hi] := rfl
/-- Facts of a box of seven cells. -/
theorem box7_at {w : World} {b : Nat} {v0 v1 v2 v3 v4 v5 v6 : Value} {t : TypeId} {fr : Nat × Nat} (h : w.heap[b]? = some (.cells #[v0, v1, v2, v3, v4, v5, v6] t fr)) : w.cell? ⟨b, 0, none⟩ = some v0 ∧ w.cell? ⟨b, 1, none⟩ = some v1 ∧ w.cell? ⟨b, 2, none⟩ = some v2 ∧ w.cell? ⟨b, 3, none⟩ = some v3 ∧ w.cell? ⟨b, 4, none⟩ = some v4 ∧ w.cell? ⟨b, 5, none⟩ = some v5 ∧ w.cell? ⟨b, 6, none⟩ = some v6 :=
  ⟨obj_cell h 0, obj_cell h 1, obj_cell h 2, obj_cell h 3, obj_cell h 4, obj_cell h 5, obj_cell h 6⟩
set_option maxRecDepth 100000 in
set_option maxHeartbeats 8000000 in
theorem tokens_is {bk : BkF} (hbk : BkIs bk) (s : ByteArray) (ext : Bool) (K : Nat) (hz : s.size ≤ K) (hK : K ≤ 4096) (w : World) (hM : MaxAt w) : Calls Try.prog 15 #[.string s, .bool ext] w (ToksP (toksF bk ext K 4 s.data.toList) w) := by
  obtain ⟨o, eo⟩ : ∃ o, o = toksF bk ext K 4 s.data.toList := ⟨_, rfl⟩
  rw [← eo]
  have HO := Lib.hid (show o = (toksF bk ext K 4 s.data.toList).map ([] ++ ·) by rw [eo]; cases toksF bk ext K 4 s.data.toList <;> rfl)
  have HZ := Lib.hid (And.intro hz hK)
  have HBK := Lib.hid hbk
  have HM := Lib.hid hM
  clear eo hz hK hbk hM
  go_enter Try.func15, Try.ntmps15
  go_wp2_with fail
  refine wp_scope_again 0 (fun a' w' => ∃ (rest : ByteArray) (acc : List Tok) (ah : Int) (v : Value) (k : Nat) (u8 u9 u10 u11 u12 u13 u14 u15 u16 u17 u18 u19 u20 u21 u22 u23 u24 u25 u26 u27 u28 u29 u30 u31 : Value), Hid (o = (toksF bk ext k ah rest.data.toList).map (acc ++ ·) ∧ rest.size ≤ k ∧ acc.length + k ≤ K ∧ w'.ownsRow w.heap.size 60 7 v acc.length (tsV acc) ∧ Below w.heap.size w w') ∧ a' = { tmps := #[.string rest, .bool ext, undef, undef, .slice none 0 0, .bool false, v, .int .i64 ah, u8, u9, u10, u11, u12, u13, u14, u15, u16, u17, u18, u19, u20, u21, u22, u23, u24, u25, u26, u27, u28, u29, u30, u31], defers := [] }) (fun a' _ => strLen (a'.tmps.getD 0 undef)) rfl ?_ ?_
  · intro hp
    have HP := Lib.hid hp
    clear hp
    go_wp2_with fail
    go_step3
    simp only [Exit.then]
    rename_i hKK
    exact hKK _ _ (HP.out _ _ ⟨s, [], 4, _, K, _, _, _, _, _, _, _, _, _, _, _, _, _, _, _, _, _, _, _, _, _, _, _, _, Lib.hid ⟨HO.out, HZ.out.1, by simp, World.ownsRow_nil _ _ _ _, Below.refl _ _⟩, rfl⟩)
  · rintro a' wr ⟨rest, acc, ah, v, k, u8, u9, u10, u11, u12, u13, u14, u15, u16, u17, u18, u19, u20, u21, u22, u23, u24, u25, u26, u27, u28, u29, u30, u31, HI, rfl⟩
    match hl : rest.data.toList with
    | [] =>
      have hem : rest.toList.isEmpty = true := by rw [isEmpty_of, hl]; rfl
      have HE := Lib.hid (show o = some acc by rw [HI.out.1, hl]; cases k <;> simp [toksF])
      obtain ⟨A, c, rfl, hnc, hra, _⟩ := own_form HI.out.2.2.2.1
      have HR := Lib.hid (And.intro hnc hra)
      clear hl hnc hra
      go_wp2_with fail
      simp only [Exit.jump]
      go_ret2
      rw [HE.out]
      exact ⟨A, c, rfl, HR.out.1, HR.out.2, HI.out.2.2.2.2⟩
    | c :: r =>
      have hem : rest.toList.isEmpty = false := by rw [isEmpty_of, hl]; rfl
      have hsz := size_cons hl
      obtain ⟨k', rfl⟩ : ∃ k', k = k' + 1 := ⟨k - 1, by have := HI.out.2.1; omega⟩
      have h9 := first_token HBK.out rest ext ah hl (by have := HI.out.2.1; have := HI.out.2.2.1; have := HZ.out; omega) wr (HM.out.below HI.out.2.2.2.2)
      have hpos := firstT_pos (bk := bk) ext ah c r
      have hlen := firstT_len HBK.out ext ah c r (by have := HI.out.2.1; have := HI.out.2.2.1; have := HZ.out; omega)
      obtain ⟨⟨T, n⟩, hT⟩ : ∃ T, T = firstT bk ext ah (c :: r) := ⟨_, rfl⟩
      rw [← hT] at h9 hlen hpos
      have hst := toks_step (k := k') hT
      unfold TokAns Tok.v at h9
      have H9 := Lib.hid h9
      by_cases hk0 : T.kind = 0
      · have gk : (T.kind == 0) = true := by rw [beq_iff_eq]; exact hk0
        have HE := Lib.hid (show o = none from toks_none HI.out.1 (by rw [hl, hst, if_pos hk0]))
        clear hl hsz h9 hlen hpos hT hst hk0
        go_wp2_with fail
        go_at_call 20
        refine H9.out.mono ?_
        rintro e w1 ⟨rfl, hb1⟩
        have HB := Lib.hid (HI.out.2.2.2.2.trans (hb1.mono HI.out.2.2.2.2.size))
        clear hb1
        go_wp2_with fail
        simp only [Exit.jump]
        go_ret2
        rw [HE.out]
        exact ⟨rfl, HB.out.alloc HB.out.size _⟩
      · have gk : (T.kind == 0) = false := by rw [beq_eq_false_iff_ne]; exact hk0
        have hn : n ≤ rest.size := by have := hlen hk0; simp only [List.length_cons] at this; omega
        have hni : (n : Int) ≤ (rest.size : Int) := by omega
        have HO2 := Lib.hid (toks_push (T := T) HI.out.1 (by rw [hl, hst, if_neg hk0]))
        have hdr : (rest.extract n rest.size).data.toList = (c :: r).drop n := by rw [drop_of, hl]
        have hn1 : rest.size - n ≤ k' ∧ 1 ≤ n := by have := HI.out.2.1; have := hpos hk0; omega
        have HDR := Lib.hid (And.intro hdr hn1)
        have HMEAS := Lib.hid (show (rest.extract n rest.size).size < rest.size by simp; omega)
        clear hl hsz h9 hlen hpos hT hst hk0 hdr hn1
        go_wp2_with fail
        go_at_call 20
        refine H9.out.mono ?_
        rintro e w1 ⟨rfl, hb1⟩
        have hbw := HI.out.2.2.2.2.trans (hb1.mono HI.out.2.2.2.2.size)
        have HB1 := Lib.hid hb1
        have HBW := Lib.hid hbw
        clear hb1 hbw
        go_upto_region 8 with fail
        obtain ⟨W2, eW2⟩ : ∃ W2, W2 = w1.alloc (.cells #[.int .i64 T.kind, .int .u64 (T.set 0), .int .u64 (T.set 1), .int .u64 (T.set 2), .int .u64 (T.set 3), .int .i64 T.lo, .int .i64 T.hi] 60) := ⟨_, rfl⟩
        rw [← eW2]
        obtain ⟨bx, ebx⟩ : ∃ bx, bx = w1.heap.size := ⟨_, rfl⟩
        rw [← ebx]
        have hbx2 : W2.heap[bx]? = some (.cells #[.int .i64 T.kind, .int .u64 (T.set 0), .int .u64 (T.set 1), .int .u64 (T.set 2), .int .u64 (T.set 3), .int .i64 T.lo, .int .i64 T.hi] 60) := by rw [eW2, ebx]; exact heap_alloc_new w1 _
        have hb12 : Below w1.heap.size w1 W2 := by rw [eW2]; exact bA w1 _
        have hown2 : W2.ownsRow w.heap.size 60 7 v acc.length (tsV acc) := ownsRow_turned (ownsRow_turned HI.out.2.2.2.1 (Turned.of_below (S := fun _ => False) HB1.out) (fun _ _ h => h)) (Turned.of_below (S := fun _ => False) hb12) (fun _ _ h => h)
        have hbw2 : Below w.heap.size w W2 := HBW.out.trans (hb12.mono HBW.out.size)
        have hbd : Below W2.heap.size W2 W2.drew := (Below.refl _ W2).drew
        have hb2a : Below W2.heap.size W2 (W2.alloc (.cells #[.int .i64 T.kind, .int .u64 (T.set 0), .int .u64 (T.set 1), .int .u64 (T.set 2), .int .u64 (T.set 3), .int .i64 T.lo, .int .i64 T.hi] 60)).drew := ((Below.refl _ W2).alloc (Nat.le_refl _) _).drew
        have howna := ownsRow_turned hown2 (Turned.of_below (S := fun _ => False) hb2a) (fun _ _ h => h)
        have hnew : (W2.alloc (.cells #[.int .i64 T.kind, .int .u64 (T.set 0), .int .u64 (T.set 1), .int .u64 (T.set 2), .int .u64 (T.set 3), .int .i64 T.lo, .int .i64 T.hi] 60)).drew.heap[W2.heap.size]? = some (.cells T.cells.toArray 60) := heap_alloc_new W2 _
        obtain ⟨v', w11, hap, hown', hgrow, hfr⟩ := run_append_raw elem_tok howna (some ⟨W2.heap.size, 0, none⟩) 1 1 T.cells (.inr ⟨W2.heap.size, 0, rfl, fun j u hu => by
          rw [Nat.zero_add, obj_cell hnew j]
          simpa using hu⟩) rfl (by intro u hu; exact oneCell_tsV (xs := [T]) u (by simpa [tsV] using hu)) (by have := HI.out.2.2.1; have := HZ.out; omega) (by have := hbw2.size; have := hb2a.size; omega)
        have hbxlt : bx < W2.heap.size := (Array.getElem?_eq_some_iff.1 hbx2).1
        have hbxd := (hbd.block bx hbxlt).trans hbx2
        have hbxa := (hb2a.block bx hbxlt).trans hbx2
        have hnr : some bx ≠ v.ownBlock := by
          intro e
          have h1 := World.ownsRow.lt HI.out.2.2.2.1 bx e.symm
          have h2 := HB1.out.size
          omega
        have hbx11 := (hgrow.block bx (Array.getElem?_eq_some_iff.1 hbxa).1 hnr).trans hbxa
        obtain ⟨kd0, kd1, kd2, kd3, kd4, kd5, kd6⟩ := box7_at hbxd
        obtain ⟨ka0, _, _, _, _, _, _⟩ := box7_at hbxa
        obtain ⟨kw0, _, _, _, _, _, _⟩ := box7_at hbx11
        have hb11 : Below w.heap.size w w11 := (hbw2.trans (hb2a.mono hbw2.size)).grown hgrow (by have := hbw2.size; have := hb2a.size; omega) (fun j e => (World.ownsRow.lt HI.out.2.2.2.1 j e).1)
        have HFIN := Lib.hid (And.intro hown' hb11)
        have HNW := Lib.hid hnew
        clear hbx2 hb12 hown2 hbw2 hbd hb2a howna hnew hown' hgrow hfr hbxlt hbxd hbxa hnr hbx11 hb11 eW2 ebx gk
        refine wp_region_any (by kernel_rfl) ?_
        try (change wpAny _ _ _ _ _ _ _ (World.drew _))
        refine wpAny_take (i := 0) (v := ?v1) rfl (by kernel_rfl) (by kernel_rfl) (by kernel_rfl) (fun _ _ _ h => h) (Or.inl ⟨by rfl, ?hy1⟩) ?rest1
        case hy1 =>
          intro w
          go_simp
          try with_reducible rfl
        refine wpAny_take (i := 4) (v := ?v2) rfl (by kernel_rfl) (by kernel_rfl) (by kernel_rfl) (fun _ _ _ h => h) (Or.inl ⟨by rfl, ?hy2⟩) ?rest2
        case hy2 =>
          intro w
          go_simp
          try with_reducible rfl
        refine wpAny_take (i := 6) (v := ?v3) rfl (by kernel_rfl) (by kernel_rfl) (by kernel_rfl) (fun _ _ _ h => h) (Or.inl ⟨by rfl, ?hy3⟩) ?rest3
        case hy3 =>
          intro w
          go_simp
          try with_reducible rfl
        refine wpAny_take (i := 7) (v := ?v4) rfl (by kernel_rfl) (by kernel_rfl) (by kernel_rfl) (fun _ _ _ h => h) (Or.inl ⟨by rfl, ?hy4⟩) ?rest4
        case hy4 =>
          intro w
          go_simp
          try with_reducible rfl
        refine wpAny_take (i := 8) (v := ?v5) rfl (by kernel_rfl) (by kernel_rfl) (by kernel_rfl) (fun _ _ _ h => h) (Or.inl ⟨by rfl, ?hy5⟩) ?rest5
        case hy5 =>
          intro w
          go_simp
          try with_reducible rfl
        refine wpAny_ready (rs := [1, 5]) (by kernel_rfl) (by simp) ?_
        refine AllReady.cons rfl (fun K hK => ?_) (AllReady.cons rfl (fun K hK => ?_) AllReady.nil)
        · go_simp
          refine hK _ _ ?_
          clear hK K
          refine wpAny_ready (rs := [2, 5]) (by kernel_rfl) (by simp) ?_
          refine AllReady.cons rfl (fun K hK => ?_) (AllReady.cons rfl (fun K hK => ?_) AllReady.nil)
          · go_simp
            refine hK _ _ ?_
            clear hK K
            refine wpAny_ready (rs := [3, 5]) (by kernel_rfl) (by simp) ?_
            refine AllReady.cons rfl (fun K hK => ?_) (AllReady.cons rfl (fun K hK => ?_) AllReady.nil)
            · rw [if_pos (by rfl)]
              unfold Oper.wp
              simp [execOp, resolve, invoke, builtin, Act.eval, hap, Result.andThen]
              refine hK _ _ ?_
              clear hK K
              refine wpAny_take (i := 9) (v := ?v6) rfl (by kernel_rfl) (by kernel_rfl) (by kernel_rfl) (fun _ _ _ h => h) (Or.inl ⟨by rfl, ?hy6⟩) ?rest6
              case hy6 =>
                intro w
                go_simp
                try with_reducible rfl
              refine wpAny_ready (rs := [5]) (by kernel_rfl) (by simp) ?_
              refine AllReady.cons rfl (fun K hK => ?_) AllReady.nil
              · go_simp
                refine hK _ _ ?_
                clear hK K
                refine wpAny_take (i := 10) (v := ?v7) rfl (by kernel_rfl) (by kernel_rfl) (by kernel_rfl) (fun _ _ _ h => h) (Or.inl ⟨by rfl, ?hy7⟩) ?rest7
                case hy7 =>
                  intro w
                  go_simp
                  try with_reducible rfl
                refine wpAny_take (i := 11) (v := ?v8) rfl (by kernel_rfl) (by kernel_rfl) (by kernel_rfl) (fun _ _ _ h => h) (Or.inl ⟨by rfl, ?hy8⟩) ?rest8
                case hy8 =>
                  intro w
                  go_simp
                  try with_reducible rfl
                refine wpAny_done (by kernel_rfl) ?_ _
                go_wp2_with fail
                go_step3
                exact ⟨rfl, ⟨rest.extract n rest.size, acc ++ [T], T.kind, v', k', _, _, _, _, _, _, _, _, _, _, _, _, _, _, _, _, _, _, _, _, _, _, _, _, Lib.hid ⟨by rw [HDR.out.1]; exact HO2.out, by simp; have := HDR.out.2.1; omega, by have := HI.out.2.2.1; simp; omega, by rw [List.length_append, tsV_append]; simpa [tsV] using HFIN.out.1, HFIN.out.2⟩, rfl⟩, HMEAS.out⟩
            · go_simp
              refine hK _ _ ?_
              clear hK K
              refine wpAny_ready (rs := [3]) (by kernel_rfl) (by simp) ?_
              refine AllReady.cons rfl (fun K hK => ?_) AllReady.nil
              · rw [if_pos (by rfl)]
                unfold Oper.wp
                simp [execOp, resolve, invoke, builtin, Act.eval, hap, Result.andThen]
                refine hK _ _ ?_
                clear hK K
                refine wpAny_take (i := 9) (v := ?v9) rfl (by kernel_rfl) (by kernel_rfl) (by kernel_rfl) (fun _ _ _ h => h) (Or.inl ⟨by rfl, ?hy9⟩) ?rest9
                case hy9 =>
                  intro w
                  go_simp
                  try with_reducible rfl
                refine wpAny_take (i := 10) (v := ?v10) rfl (by kernel_rfl) (by kernel_rfl) (by kernel_rfl) (fun _ _ _ h => h) (Or.inl ⟨by rfl, ?hy10⟩) ?rest10
                case hy10 =>
                  intro w
                  go_simp
                  try with_reducible rfl
                refine wpAny_take (i := 11) (v := ?v11) rfl (by kernel_rfl) (by kernel_rfl) (by kernel_rfl) (fun _ _ _ h => h) (Or.inl ⟨by rfl, ?hy11⟩) ?rest11
                case hy11 =>
                  intro w
                  go_simp
                  try with_reducible rfl
                refine wpAny_done (by kernel_rfl) ?_ _
                go_wp2_with fail
                go_step3
                exact ⟨rfl, ⟨rest.extract n rest.size, acc ++ [T], T.kind, v', k', _, _, _, _, _, _, _, _, _, _, _, _, _, _, _, _, _, _, _, _, _, _, _, _, Lib.hid ⟨by rw [HDR.out.1]; exact HO2.out, by simp; have := HDR.out.2.1; omega, by have := HI.out.2.2.1; simp; omega, by rw [List.length_append, tsV_append]; simpa [tsV] using HFIN.out.1, HFIN.out.2⟩, rfl⟩, HMEAS.out⟩
          · go_simp
            refine hK _ _ ?_
            clear hK K
            refine wpAny_ready (rs := [2]) (by kernel_rfl) (by simp) ?_
            refine AllReady.cons rfl (fun K hK => ?_) AllReady.nil
            · go_simp
              refine hK _ _ ?_
              clear hK K
              refine wpAny_ready (rs := [3]) (by kernel_rfl) (by simp) ?_
              refine AllReady.cons rfl (fun K hK => ?_) AllReady.nil
              · rw [if_pos (by rfl)]
                unfold Oper.wp
                simp [execOp, resolve, invoke, builtin, Act.eval, hap, Result.andThen]
                refine hK _ _ ?_
                clear hK K
                refine wpAny_take (i := 9) (v := ?v12) rfl (by kernel_rfl) (by kernel_rfl) (by kernel_rfl) (fun _ _ _ h => h) (Or.inl ⟨by rfl, ?hy12⟩) ?rest12
                case hy12 =>
                  intro w
                  go_simp
                  try with_reducible rfl
                refine wpAny_take (i := 10) (v := ?v13) rfl (by kernel_rfl) (by kernel_rfl) (by kernel_rfl) (fun _ _ _ h => h) (Or.inl ⟨by rfl, ?hy13⟩) ?rest13
                case hy13 =>
                  intro w
                  go_simp
                  try with_reducible rfl
                refine wpAny_take (i := 11) (v := ?v14) rfl (by kernel_rfl) (by kernel_rfl) (by kernel_rfl) (fun _ _ _ h => h) (Or.inl ⟨by rfl, ?hy14⟩) ?rest14
                case hy14 =>
                  intro w
                  go_simp
                  try with_reducible rfl
                refine wpAny_done (by kernel_rfl) ?_ _
                go_wp2_with fail
                go_step3
                exact ⟨rfl, ⟨rest.extract n rest.size, acc ++ [T], T.kind, v', k', _, _, _, _, _, _, _, _, _, _, _, _, _, _, _, _, _, _, _, _, _, _, _, _, Lib.hid ⟨by rw [HDR.out.1]; exact HO2.out, by simp; have := HDR.out.2.1; omega, by have := HI.out.2.2.1; simp; omega, by rw [List.length_append, tsV_append]; simpa [tsV] using HFIN.out.1, HFIN.out.2⟩, rfl⟩, HMEAS.out⟩
        · go_simp
          refine hK _ _ ?_
          clear hK K
          refine wpAny_ready (rs := [1]) (by kernel_rfl) (by simp) ?_
          refine AllReady.cons rfl (fun K hK => ?_) AllReady.nil
          · go_simp
            refine hK _ _ ?_
            clear hK K
            refine wpAny_ready (rs := [2]) (by kernel_rfl) (by simp) ?_
            refine AllReady.cons rfl (fun K hK => ?_) AllReady.nil
            · go_simp
              refine hK _ _ ?_
              clear hK K
              refine wpAny_ready (rs := [3]) (by kernel_rfl) (by simp) ?_
              refine AllReady.cons rfl (fun K hK => ?_) AllReady.nil
              · rw [if_pos (by rfl)]
                unfold Oper.wp
                simp [execOp, resolve, invoke, builtin, Act.eval, hap, Result.andThen]
                refine hK _ _ ?_
                clear hK K
                refine wpAny_take (i := 9) (v := ?v15) rfl (by kernel_rfl) (by kernel_rfl) (by kernel_rfl) (fun _ _ _ h => h) (Or.inl ⟨by rfl, ?hy15⟩) ?rest15
                case hy15 =>
                  intro w
                  go_simp
                  try with_reducible rfl
                refine wpAny_take (i := 10) (v := ?v16) rfl (by kernel_rfl) (by kernel_rfl) (by kernel_rfl) (fun _ _ _ h => h) (Or.inl ⟨by rfl, ?hy16⟩) ?rest16
                case hy16 =>
                  intro w
                  go_simp
                  try with_reducible rfl
                refine wpAny_take (i := 11) (v := ?v17) rfl (by kernel_rfl) (by kernel_rfl) (by kernel_rfl) (fun _ _ _ h => h) (Or.inl ⟨by rfl, ?hy17⟩) ?rest17
                case hy17 =>
                  intro w
                  go_simp
                  try with_reducible rfl
                refine wpAny_done (by kernel_rfl) ?_ _
                go_wp2_with fail
                go_step3
                exact ⟨rfl, ⟨rest.extract n rest.size, acc ++ [T], T.kind, v', k', _, _, _, _, _, _, _, _, _, _, _, _, _, _, _, _, _, _, _, _, _, _, _, _, Lib.hid ⟨by rw [HDR.out.1]; exact HO2.out, by simp; have := HDR.out.2.1; omega, by have := HI.out.2.2.1; simp; omega, by rw [List.length_append, tsV_append]; simpa [tsV] using HFIN.out.1, HFIN.out.2⟩, rfl⟩, HMEAS.out⟩
end Go.Proofs.Ytbehbbmhkkidfaa
