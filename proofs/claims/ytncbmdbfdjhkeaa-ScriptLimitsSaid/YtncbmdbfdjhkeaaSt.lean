/-
  Package script: Parse, of scripts whose commands are of the letters that take nothing, and s. Condition: texts of at most 2000 bytes.
-/
import Derived.Test.YtncbmdbfdjhkeaaSs
namespace Go.Proofs.Ytncbmdbfdjhkeaa
open Go.RowKit Go.Deep Go.Sort

/-- A command, in short. -/
structure Ds where
  name : Nat
  a1 : Int × Int × Option PN
  a2 : Int × Int × Option PN
  nt : Bool
  gl : Bool
structure CxD (c : CX) (d : Ds) : Prop where
  name : c.name = (d.name : Int)
  fk : c.fk = d.a1.1
  fl : c.fl = d.a1.2.1
  tk : c.tk = d.a2.1
  nt : c.nt = d.nt
  text : c.text = ⟨#[]⟩
  gl : c.gl = d.gl
def none2 : List Nat := [123, 100, 68, 103, 71, 104, 72, 108, 110, 78, 112, 80, 120]
/-- A command stands at n, and what is behind it begins at m. -/
inductive Cst (ext : Bool) (l : List UInt8) : Nat → Ds → Nat → Prop
  | plain (n : Nat) (A1 A2 : Int × Int × Option PN) (m1 m2 m : Nat) (nt : Bool) (v : Nat) (ch : UInt8) (hA : adsX ext l n = some (A1, A2, m1)) (hN : ngF (l.length + 1) l m1 false = (nt, m2)) (hch : l[m2]? = some ch) (hv : ch.toNat = v) (hin : v ∈ none2) (hm : (v = 123 ∧ m = m2 + 1) ∨ (v ≠ 123 ∧ m = m2 + 1 + blk (l.drop (m2 + 1)) ∧ endF l m = true)) : Cst ext l n ⟨v, A1, A2, nt, false⟩ m
  | subst (n : Nat) (A1 A2 : Int × Int × Option PN) (m1 m2 m3 m : Nat) (nt : Bool) (G : Fl) (X : ByteArray) (hA : adsX ext l n = some (A1, A2, m1)) (hN : ngF (l.length + 1) l m1 false = (nt, m2)) (hch : l[m2]? = some 115) (hs : SubOk ext l (m2 + 1) G X m3 true) (hm : m = m3 + blk (l.drop m3) ∧ endF l m = true) : Cst ext l n ⟨115, A1, A2, nt, G.gl⟩ m
def CmdA (s : ByteArray) (ext : Bool) (r b m : Nat) (d : Ds) (W W' : World) : Prop := ∃ c' : CX, c'.tv.oneCell' = true ∧ RC s ext r b (m : Int) c' W W' ∧ CxD c' d
set_option maxRecDepth 100000 in
set_option maxHeartbeats 16000000 in
theorem cmd_any {s : ByteArray} {ext : Bool} {r b n m re im : Nat} {d : Ds} {w : World} (hz : s.size ≤ 2000) (hn : n ≤ s.size) (hM : MaxAt w) (hrb : r ≠ b) (h : Rd s ext r (n : Int) w) (hc : Cm (CX.zero re im) b w) (hd : Cst ext s.data.toList n d m) : Calls Try.prog 10 #[.pointer (some ⟨r, 0, none⟩), .pointer (some ⟨b, 0, none⟩)] w fun e w' => e = .returned (.bool true) ∧ CmdA s ext r b m d w w' := by
  have hsz : s.data.toList.length = s.size := by simp
  cases hd with
  | plain A1 A2 m1 m2 _ nt v ch hA hN hch hv hin hm =>
    rw [hsz] at hN
    have key : ∀ (HLET : ∀ (W : World) (n' : Nat) (c' : CX), Rd s ext r (n' : Int) W → Cm c' b W → c'.name = (v : Int) → Calls Try.prog 19 #[.pointer (some ⟨r, 0, none⟩), .pointer (some ⟨b, 0, none⟩)] W fun e w' => e = .returned (.tuple #[.int .i64 2, .func (.func 26) #[] #[]]) ∧ Below W.heap.size W w'), Calls Try.prog 10 #[.pointer (some ⟨r, 0, none⟩), .pointer (some ⟨b, 0, none⟩)] w fun e w' => e = .returned (.bool true) ∧ CmdA s ext r b m ⟨v, A1, A2, nt, false⟩ w w' := by
      intro HLET
      refine (command_n hz hn hM hrb h hc ⟨rfl, rfl⟩ ⟨rfl, rfl⟩ rfl hA hN hch hv HLET hm).mono ?_
      rintro e w' ⟨rfl, fy, ty, hrc⟩
      exact ⟨rfl, _, rfl, hrc, ⟨rfl, rfl, rfl, rfl, rfl, rfl, rfl⟩⟩
    simp only [none2, List.mem_cons, List.not_mem_nil, or_false] at hin
    rcases hin with rfl | rfl | rfl | rfl | rfl | rfl | rfl | rfl | rfl | rfl | rfl | rfl | rfl
    · exact key fun W n' c' h1 h2 h3 => letter_123 h1 h2 h3
    · exact key fun W n' c' h1 h2 h3 => letter_100 h1 h2 h3
    · exact key fun W n' c' h1 h2 h3 => letter_68 h1 h2 h3
    · exact key fun W n' c' h1 h2 h3 => letter_103 h1 h2 h3
    · exact key fun W n' c' h1 h2 h3 => letter_71 h1 h2 h3
    · exact key fun W n' c' h1 h2 h3 => letter_104 h1 h2 h3
    · exact key fun W n' c' h1 h2 h3 => letter_72 h1 h2 h3
    · exact key fun W n' c' h1 h2 h3 => letter_108 h1 h2 h3
    · exact key fun W n' c' h1 h2 h3 => letter_110 h1 h2 h3
    · exact key fun W n' c' h1 h2 h3 => letter_78 h1 h2 h3
    · exact key fun W n' c' h1 h2 h3 => letter_112 h1 h2 h3
    · exact key fun W n' c' h1 h2 h3 => letter_80 h1 h2 h3
    · exact key fun W n' c' h1 h2 h3 => letter_120 h1 h2 h3
  | subst A1 A2 m1 m2 m3 _ nt G X hA hN hch hs hm =>
    rw [hsz] at hN
    refine (command_s hz hn hM hrb h hc ⟨rfl, rfl⟩ ⟨rfl, rfl⟩ rfl hA hN hch rfl rfl rfl rfl hs hm).mono ?_
    rintro e w' ⟨rfl, fy, ty, py, ag, tv, htv, hrc⟩
    exact ⟨rfl, _, htv, hrc, ⟨rfl, rfl, rfl, rfl, rfl, rfl, rfl⟩⟩
/-- A script from n on, behind k commands: its commands; or there are too many. -/
inductive Scr (ext : Bool) (l : List UInt8) : Nat → Nat → List Ds → Bool → Prop
  | done (k n : Nat) (h : skF (l.length + 1) l n = l.length) (hk : k ≤ 200) : Scr ext l k n [] true
  | many (k n : Nat) (h : skF (l.length + 1) l n < l.length) (hk : k = 200) : Scr ext l k n [] false
  | more (k n m m' : Nat) (d : Ds) (ds : List Ds) (ok : Bool) (hm : skF (l.length + 1) l n = m) (hl : m < l.length) (hk : k < 200) (hm' : m ≤ m') (hm2 : m' ≤ l.length) (hc : Cst ext l m d m') (h : Scr ext l (k + 1) m' ds ok) : Scr ext l k n (d :: ds) ok
theorem Scr.parts {ext : Bool} {l : List UInt8} {k n : Nat} {ds : List Ds} {ok : Bool} (h : Scr ext l k n ds ok) : (ds = [] ∧ ok = true ∧ k ≤ 200 ∧ skF (l.length + 1) l n = l.length) ∨ (ds = [] ∧ ok = false ∧ k = 200 ∧ skF (l.length + 1) l n < l.length) ∨ ∃ m' d ds', ds = d :: ds' ∧ skF (l.length + 1) l n < l.length ∧ k < 200 ∧ skF (l.length + 1) l n ≤ m' ∧ m' ≤ l.length ∧ Cst ext l (skF (l.length + 1) l n) d m' ∧ Scr ext l (k + 1) m' ds' ok := by
  match h with
  | .done _ _ h hk => exact .inl ⟨rfl, rfl, hk, h⟩
  | .many _ _ h hk => exact .inr (.inl ⟨rfl, rfl, hk, h⟩)
  | .more _ _ m m' d ds ok hm hl hk hm' hm2 hc h =>
    subst hm
    exact .inr (.inr ⟨m', d, ds, rfl, hl, hk, hm', hm2, hc, h⟩)
theorem mv_pl2 (a b : List UInt8) : mv (pl a) b = pl (a ++ b) := by
  unfold mv pl
  rw [cnt_append, cntFrom_eq]
  split
  · simp only
    rw [Prod.mk.injEq]
    omega
  · simp only
    rw [Prod.mk.injEq]
    omega
/-- Commands, each as told. -/
inductive AllD : List CX → List Ds → Prop
  | nil : AllD [] []
  | cons {c : CX} {d : Ds} {cs : List CX} {ds : List Ds} (h : CxD c d) (k : AllD cs ds) : AllD (c :: cs) (d :: ds)
theorem AllD.snoc : ∀ {cs : List CX} {ds : List Ds}, AllD cs ds → ∀ {c : CX} {d : Ds}, CxD c d → AllD (cs ++ [c]) (ds ++ [d])
  | [], [], .nil, _, _, h => .cons h .nil
  | _ :: _, _ :: _, .cons h k, _, _, h2 => .cons h (k.snoc h2)
theorem AllD.length : ∀ {cs : List CX} {ds : List Ds}, AllD cs ds → cs.length = ds.length
  | [], [], .nil => rfl
  | _ :: _, _ :: _, .cons _ k => by rw [List.length_cons, List.length_cons, k.length]
def slLen : Value → Nat
  | .slice _ n _ => n
  | _ => 0
end Go.Proofs.Ytncbmdbfdjhkeaa
