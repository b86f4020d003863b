/-
  PkBP: CtFr CtFo, one behind the other (tools/pack.py).
-/
import Derived.Test.YtgokmkholjfhbaaGreatRows
import Derived.ProofKit
import Derived.OpenShut
import Derived.Lib.SmallJoins
import Derived.ChangeSlices
import Derived.Deep.Slices
import Derived.ChangeMaps5
import Derived.Carry
import Derived.Test.YtgokmkholjfhbaaGreatPkBK
import Derived.Test.YtgokmkholjfhbaaGreatPkAE
set_option linter.unusedVariables false
set_option linter.unusedSimpArgs false
namespace Go.Proofs.YtgokmkholjfhbaaGreat
open Go.ChangeShapes Go.WideShapes Go.ChangeAt Go.RowKit Go.Joins
set_option maxRecDepth 20000
theorem own : ownKnob Tryz.prog.godebug = none := by kernel_rfl
theorem laidOut : laidOutB Tryz.prog = true := by kernel_rfl
theorem cells_int : Tryz.prog.cellsOf 3 = 1 := by kernel_rfl
theorem cells_u32 : Tryz.prog.cellsOf 25 = 1 := by kernel_rfl
theorem cells_u16 : Tryz.prog.cellsOf 26 = 1 := by kernel_rfl
theorem cells_u8 : Tryz.prog.cellsOf 5 = 1 := by kernel_rfl
theorem cells_Action : Tryz.prog.cellsOf 22 = 1 := by kernel_rfl
theorem cells_Prefix : Tryz.prog.cellsOf 58 = 2 := by kernel_rfl
theorem cells_Span : Tryz.prog.cellsOf 60 = 2 := by kernel_rfl
theorem cells_Mask : Tryz.prog.cellsOf 62 = 2 := by kernel_rfl
theorem cells_Rule : Tryz.prog.cellsOf 64 = 12 := by kernel_rfl
theorem cells_Header : Tryz.prog.cellsOf 28 = 5 := by kernel_rfl
theorem cells_Config : Tryz.prog.cellsOf 24 = 7 := by kernel_rfl
theorem cells_Op : Tryz.prog.cellsOf 66 = 21 := by kernel_rfl
theorem cells_Rules : Tryz.prog.cellsOf 56 = 1 := by kernel_rfl
theorem wf_sgn {a : Int} (h : (Lit.int .i64 a).wf = true) : I64 a := by
 have h1 : IntKind.i64.min ≤ a ∧ a ≤ IntKind.i64.max := by simpa [Lit.wf] using h
 have e1 : IntKind.i64.min = -9223372036854775808 := rfl
 have e2 : IntKind.i64.max = 9223372036854775807 := rfl
 unfold I64
 omega
theorem wf_u32 {a : Int} (h : (Lit.int .u32 a).wf = true) : ∃ n : Nat, a = (n : Int) ∧ n < 4294967296 := by
 have h1 : IntKind.u32.min ≤ a ∧ a ≤ IntKind.u32.max := by simpa [Lit.wf] using h
 have e1 : IntKind.u32.min = 0 := rfl
 have e2 : IntKind.u32.max = 4294967295 := rfl
 exact ⟨a.toNat, by omega, by omega⟩
theorem wf_u16 {a : Int} (h : (Lit.int .u16 a).wf = true) : ∃ n : Nat, a = (n : Int) ∧ n < 65536 := by
 have h1 : IntKind.u16.min ≤ a ∧ a ≤ IntKind.u16.max := by simpa [Lit.wf] using h
 have e1 : IntKind.u16.min = 0 := rfl
 have e2 : IntKind.u16.max = 65535 := rfl
 exact ⟨a.toNat, by omega, by omega⟩
theorem wf_u8 {a : Int} (h : (Lit.int .u8 a).wf = true) : ∃ n : Nat, a = (n : Int) ∧ n < 256 := by
 have h1 : IntKind.u8.min ≤ a ∧ a ≤ IntKind.u8.max := by simpa [Lit.wf] using h
 have e1 : IntKind.u8.min = 0 := rfl
 have e2 : IntKind.u8.max = 255 := rfl
 exact ⟨a.toNat, by omega, by omega⟩
variable {H : Type} {enc : TypeId × Value → H} {w : World} {base : Nat} {spare : Nat → Bool} {held : Bool}
theorem two_pf {fuel : Nat} {c0 c1 : Value} {y : DataW H × List MemPlace} (h : DataW.trod enc Tryz.prog w base spare held fuel 58 [c0, c1] = some y) : ∃ (p : Nat) (q : Int), c0 = .int .u32 p ∧ c1 = .int .i64 q ∧ p < 4294967296 ∧ I64 q := by
 obtain ⟨y0, y1, n, hx, hl, g0, g1⟩ := trod_struct2 Tryz.underlying58 h
 simp [cells_u32, cells_int] at g0 g1
 obtain ⟨a0, e0, rfl, w0⟩ := DataW.trod_int Tryz.underlying25 g0
 obtain ⟨a1, e1, rfl, w1⟩ := DataW.trod_int Tryz.underlying3 g1
 simp at e0 e1
 subst e0 e1
 obtain ⟨k0, rfl, l0⟩ := wf_u32 w0
 exact ⟨k0, a1, rfl, rfl, l0, wf_sgn w1⟩
theorem two_sp {fuel : Nat} {c0 c1 : Value} {y : DataW H × List MemPlace} (h : DataW.trod enc Tryz.prog w base spare held fuel 60 [c0, c1] = some y) : ∃ p : Nat × Nat, c0 = .int .u16 p.1 ∧ c1 = .int .u16 p.2 ∧ p.1 < 65536 ∧ p.2 < 65536 := by
 obtain ⟨y0, y1, n, hx, hl, g0, g1⟩ := trod_struct2 Tryz.underlying60 h
 simp [cells_u16] at g0 g1
 obtain ⟨a0, e0, rfl, w0⟩ := DataW.trod_int Tryz.underlying26 g0
 obtain ⟨a1, e1, rfl, w1⟩ := DataW.trod_int Tryz.underlying26 g1
 simp at e0 e1
 subst e0 e1
 obtain ⟨k0, rfl, l0⟩ := wf_u16 w0
 obtain ⟨k1, rfl, l1⟩ := wf_u16 w1
 exact ⟨(k0, k1), rfl, rfl, l0, l1⟩
theorem two_mk {fuel : Nat} {c0 c1 : Value} {y : DataW H × List MemPlace} (h : DataW.trod enc Tryz.prog w base spare held fuel 62 [c0, c1] = some y) : ∃ p : Nat × Nat, c0 = .int .u8 p.1 ∧ c1 = .int .u8 p.2 ∧ p.1 < 256 ∧ p.2 < 256 := by
 obtain ⟨y0, y1, n, hx, hl, g0, g1⟩ := trod_struct2 Tryz.underlying62 h
 simp [cells_u8] at g0 g1
 obtain ⟨a0, e0, rfl, w0⟩ := DataW.trod_int Tryz.underlying5 g0
 obtain ⟨a1, e1, rfl, w1⟩ := DataW.trod_int Tryz.underlying5 g1
 simp at e0 e1
 subst e0 e1
 obtain ⟨k0, rfl, l0⟩ := wf_u8 w0
 obtain ⟨k1, rfl, l1⟩ := wf_u8 w1
 exact ⟨(k0, k1), rfl, rfl, l0, l1⟩
theorem list12 {A : Type} {l : List A} (h : l.length = 12) : ∃ a b c d e f g i j k n m, l = [a, b, c, d, e, f, g, i, j, k, n, m] := by
 match l, h with
 | [a, b, c, d, e, f, g, i, j, k, n, m], _ => exact ⟨a, b, c, d, e, f, g, i, j, k, n, m, rfl⟩
theorem list5 {A : Type} {l : List A} (h : l.length = 5) : ∃ a b c d e, l = [a, b, c, d, e] := by
 match l, h with
 | [a, b, c, d, e], _ => exact ⟨a, b, c, d, e, rfl⟩
theorem list7 {A : Type} {l : List A} (h : l.length = 7) : ∃ a b c d e f g, l = [a, b, c, d, e, f, g] := by
 match l, h with
 | [a, b, c, d, e, f, g], _ => exact ⟨a, b, c, d, e, f, g, rfl⟩
theorem ru_of_cells {fuel : Nat} {cs : List Value} {y : DataW H × List MemPlace} (hf : DataW.trod enc Tryz.prog w base spare held fuel 64 cs = some y) : ∃ X : Ru, cs = encU X ∧ BdR X := by
 obtain ⟨xs, n, _, hx, hl, hlen, hfl⟩ := DataW.trod_struct Tryz.underlying64 hf
 obtain ⟨c0, c1, c2, c3, c4, c5, c6, c7, c8, c9, c10, c11, rfl⟩ := list12 (hl.trans cells_Rule)
 obtain ⟨y0, y1, y2, y3, y4, y5, y6, rfl⟩ := list7 (l := xs) (by simpa using hlen)
 have g0 := hfl 0 _ rfl
 have g1 := hfl 1 _ rfl
 have g2 := hfl 2 _ rfl
 have g3 := hfl 3 _ rfl
 have g4 := hfl 4 _ rfl
 have g5 := hfl 5 _ rfl
 have g6 := hfl 6 _ rfl
 simp [cells_int, cells_Action, cells_Prefix, cells_Span, cells_Mask] at g0 g1 g2 g3 g4 g5 g6
 obtain ⟨p0, r0, t0, u0⟩ := DataW.trod_int Tryz.underlying3 g0
 obtain ⟨p1, n1, r1, s1, u1, v1⟩ := two_pf g1
 obtain ⟨p2, n2, r2, s2, u2, v2⟩ := two_pf g2
 obtain ⟨p3, r3, s3, u3, v3⟩ := two_sp g3
 obtain ⟨p4, r4, s4, u4, v4⟩ := two_sp g4
 obtain ⟨p5, r5, s5, u5, v5⟩ := two_mk g5
 obtain ⟨p6, r6, t6, u6⟩ := DataW.trod_int Tryz.underlying22 g6
 simp at r0 r6
 subst r0 r1 r2 r3 r4 r5 r6 s1 s2 s3 s4 s5
 exact ⟨⟨p0, p1, n1, p2, n2, p3, p4, p5, p6⟩, rfl, u1, u2, u3, v3, u4, v4, u5, v5, wf_sgn u0, v1, v2, wf_sgn u6⟩
theorem hd_of_cells {fuel : Nat} {cs : List Value} {y : DataW H × List MemPlace} (hf : DataW.trod enc Tryz.prog w base spare held fuel 28 cs = some y) : ∃ h : Hd, cs = [.int .u32 h.s, .int .u32 h.d, .int .u16 h.p, .int .u16 h.q, .int .u8 h.r] ∧ OkH h := by
 obtain ⟨xs, n, _, hx, hl, hlen, hfl⟩ := DataW.trod_struct Tryz.underlying28 hf
 obtain ⟨c0, c1, c2, c3, c4, rfl⟩ := list5 (hl.trans cells_Header)
 obtain ⟨y0, y1, y2, y3, y4, rfl⟩ := list5 (l := xs) (by simpa using hlen)
 have g0 := hfl 0 _ rfl
 have g1 := hfl 1 _ rfl
 have g2 := hfl 2 _ rfl
 have g3 := hfl 3 _ rfl
 have g4 := hfl 4 _ rfl
 simp [cells_u32, cells_u16, cells_u8] at g0 g1 g2 g3 g4
 obtain ⟨p0, r0, t0, u0⟩ := DataW.trod_int Tryz.underlying25 g0
 obtain ⟨p1, r1, t1, u1⟩ := DataW.trod_int Tryz.underlying25 g1
 obtain ⟨p2, r2, t2, u2⟩ := DataW.trod_int Tryz.underlying26 g2
 obtain ⟨p3, r3, t3, u3⟩ := DataW.trod_int Tryz.underlying26 g3
 obtain ⟨p4, r4, t4, u4⟩ := DataW.trod_int Tryz.underlying5 g4
 simp at r0 r1 r2 r3 r4
 subst r0 r1 r2 r3 r4
 obtain ⟨k0, rfl, l0⟩ := wf_u32 u0
 obtain ⟨k1, rfl, l1⟩ := wf_u32 u1
 obtain ⟨k2, rfl, l2⟩ := wf_u16 u2
 obtain ⟨k3, rfl, l3⟩ := wf_u16 u3
 obtain ⟨k4, rfl, l4⟩ := wf_u8 u4
 exact ⟨⟨k0, k1, k2, k3, k4⟩, rfl, l0, l1, l2, l3, l4⟩
theorem cells_at {b : Nat} {a : Addr} {n : Nat} {cs : List Value} (h : w.cells? b a n = some cs) (j : Nat) (hj : j < n) : w.cell? (a.add j) = cs[j]? := by
 unfold World.cells? at h
 split at h
 ·obtain ⟨x, h1, h2⟩ := Lib.mapM_at h j j (by simp [hj])
  rw [h1]; exact h2
 ·cases h
theorem no_spot {a : Addr} {v : Value} (h : w.cell? ((a.add 0).add 0) = some v) : a.spot = none := by
 obtain ⟨b, off, spot⟩ := a
 cases spot with
 | none => rfl
 | some z =>
  exfalso
  simp only [Addr.add, if_true, World.cell?] at h
  split at h
  ·simp at h
  ·cases h
theorem rus_of_cells {fuel : Nat} {v : Value} {y : DataW H × List MemPlace} (hfu : DataW.trod enc Tryz.prog w base spare held fuel 56 [v] = some y) : ∃ l : List Ru, SrcU w v l ∧ ∀ R ∈ l, BdR R := by
 rcases Go.Deep.open_slice Tryz.underlying56 hfu with ⟨hc, hx⟩ | ⟨a, len, cap, m, k, D, Pl, hc, _, hl, hm, hmm, hx, hall⟩
 ·simp at hc
  subst hc
  exact ⟨[], ⟨none, 0, rfl, ⟨Nat.le_refl _, fun _ => rfl⟩, fun h0 => absurd h0 (Nat.lt_irrefl _)⟩, fun s hs => by cases hs⟩
 ·simp at hc
  subst hc
  have hlm : len ≤ m := by rw [hmm]; split <;> omega
  have val : ∀ i, ∃ X : Ru, i < len → (∀ j, j < 12 → w.cell? ((a.add (i * 12)).add j) = (encU X)[j]?) ∧ BdR X := by
   intro i
   by_cases hi : i < len
   ·obtain ⟨cs', h1, h2⟩ := hall i (by omega)
    rw [cells_Rule] at h1
    obtain ⟨X, rfl, hb⟩ := ru_of_cells h2
    exact ⟨X, fun _ => ⟨fun j hj => cells_at h1 j hj, hb⟩⟩
   ·exact ⟨ruZ, fun h => absurd h hi⟩
  obtain ⟨f, hf⟩ : ∃ f : Nat → Ru, f = fun i => Classical.choose (val i) := ⟨_, rfl⟩
  have hF : ∀ i, i < len → (∀ j, j < 12 → w.cell? ((a.add (i * 12)).add j) = (encU (f i))[j]?) ∧ BdR (f i) := by rw [hf]; exact fun i => Classical.choose_spec (val i)
  refine ⟨(List.range len).map f, ⟨some a, cap, by simp, ⟨by simpa using hl, fun e => by cases e⟩, fun h0 => ?_⟩, fun R hR => ?_⟩
  ·simp at h0
   have h00 := (hF 0 h0).1 0 (by decide)
   have hsp : a.spot = none := no_spot (h00.trans rfl)
   obtain ⟨b, off, spot⟩ := a
   simp only at hsp
   subst hsp
   refine ⟨b, off, rfl, fun i hi j hj => ?_⟩
   simp at hi
   have := (hF i hi).1 j hj
   rw [Addr.add_lit, Addr.add_lit, Nat.add_assoc] at this
   rw [this]
   simp
  ·obtain ⟨i, hi, rfl⟩ := List.mem_map.1 hR
   exact (hF i (List.mem_range.1 hi)).2
theorem open_rus {r : Reach} {b0 : Nat} {v : Value} {d : DataW H} {p : List MemPlace}
  (hv : Value.okWide Tryz.prog w r b0 56 v) (h : DataW.Trod enc Tryz.prog w base spare held 56 v d p) : ∃ l : List Ru, SrcU w v l ∧ ∀ R ∈ l, BdR R := by
 obtain ⟨a0, len, cap, rfl⟩ := okWide_slice Tryz.underlying56 hv
 obtain ⟨fuel, hfu⟩ := h
 exact rus_of_cells (by simpa [Value.cells] using hfu)
theorem open_hd {r : Reach} {b0 : Nat} {v : Value} {d : DataW H} {p : List MemPlace}
  (hv : Value.okWide Tryz.prog w r b0 28 v) (ht : DataW.Trod enc Tryz.prog w base spare held 28 v d p) : ∃ h : Hd, v = .agg #[.int .u32 h.s, .int .u32 h.d, .int .u16 h.p, .int .u16 h.q, .int .u8 h.r] ∧ OkH h := by
 obtain ⟨cs, rfl, hsz⟩ := okWide_struct Tryz.underlying28 hv
 obtain ⟨fuel, hf⟩ := ht
 obtain ⟨h, e, b⟩ := hd_of_cells (by simpa [Value.cells] using hf)
 refine ⟨h, ?_, b⟩
 obtain ⟨l⟩ := cs
 simp at e
 rw [e]
theorem cf_of_cells {fuel : Nat} {cs : List Value} {y : DataW H × List MemPlace} (hf : DataW.trod enc Tryz.prog w base spare held fuel 24 cs = some y) : ∃ c : Cf, cs = [.int .i64 c.m, .int .i64 c.a, .int .i64 c.p, .int .i64 c.g, .int .i64 c.t, .int .i64 c.b, .int .i64 c.d] ∧ BdC c := by
 obtain ⟨xs, n, _, hx, hl, hlen, hfl⟩ := DataW.trod_struct Tryz.underlying24 hf
 obtain ⟨c0, c1, c2, c3, c4, c5, c6, rfl⟩ := list7 (hl.trans cells_Config)
 obtain ⟨y0, y1, y2, y3, y4, y5, y6, rfl⟩ := list7 (l := xs) (by simpa using hlen)
 have g0 := hfl 0 _ rfl
 have g1 := hfl 1 _ rfl
 have g2 := hfl 2 _ rfl
 have g3 := hfl 3 _ rfl
 have g4 := hfl 4 _ rfl
 have g5 := hfl 5 _ rfl
 have g6 := hfl 6 _ rfl
 simp [cells_int, cells_Action] at g0 g1 g2 g3 g4 g5 g6
 obtain ⟨p0, r0, t0, u0⟩ := DataW.trod_int Tryz.underlying3 g0
 obtain ⟨p1, r1, t1, u1⟩ := DataW.trod_int Tryz.underlying22 g1
 obtain ⟨p2, r2, t2, u2⟩ := DataW.trod_int Tryz.underlying3 g2
 obtain ⟨p3, r3, t3, u3⟩ := DataW.trod_int Tryz.underlying3 g3
 obtain ⟨p4, r4, t4, u4⟩ := DataW.trod_int Tryz.underlying3 g4
 obtain ⟨p5, r5, t5, u5⟩ := DataW.trod_int Tryz.underlying3 g5
 obtain ⟨p6, r6, t6, u6⟩ := DataW.trod_int Tryz.underlying3 g6
 simp at r0 r1 r2 r3 r4 r5 r6
 subst r0 r1 r2 r3 r4 r5 r6
 exact ⟨⟨p0, p1, p2, p3, p4, p5, p6⟩, rfl, wf_sgn u0, wf_sgn u1, wf_sgn u2, wf_sgn u3, wf_sgn u4, wf_sgn u5, wf_sgn u6⟩
theorem open_cf {r : Reach} {b0 : Nat} {v : Value} {d : DataW H} {p : List MemPlace}
  (hv : Value.okWide Tryz.prog w r b0 24 v) (ht : DataW.Trod enc Tryz.prog w base spare held 24 v d p) : ∃ c : Cf, v = .agg #[.int .i64 c.m, .int .i64 c.a, .int .i64 c.p, .int .i64 c.g, .int .i64 c.t, .int .i64 c.b, .int .i64 c.d] ∧ BdC c := by
 obtain ⟨cs, rfl, hsz⟩ := okWide_struct Tryz.underlying24 hv
 obtain ⟨fuel, hf⟩ := ht
 obtain ⟨h, e, b⟩ := cf_of_cells (by simpa [Value.cells] using hf)
 refine ⟨h, ?_, b⟩
 obtain ⟨l⟩ := cs
 simp at e
 rw [e]
structure Opp where
 k : Int
 p : Int
 i : Int
 r : Ru
 h : Hd
 u : Value
 l : List Ru
def encO (o : Opp) : List Value := [.int .i64 o.k, .int .i64 o.p, .int .i64 o.i] ++ (encU o.r ++ ([.int .u32 o.h.s, .int .u32 o.h.d, .int .u16 o.h.p, .int .u16 o.h.q, .int .u8 o.h.r] ++ [o.u]))
def BdO (w : World) (o : Opp) : Prop := I64 o.k ∧ I64 o.p ∧ I64 o.i ∧ BdR o.r ∧ OkH o.h ∧ SrcU w o.u o.l ∧ ∀ R ∈ o.l, BdR R
theorem list21 {A : Type} {l : List A} (h : l.length = 21) : ∃ a b c r s z, l = a :: b :: c :: (r ++ (s ++ [z])) ∧ r.length = 12 ∧ s.length = 5 := by
 match l, h with
 | a :: b :: c :: t, h =>
  have h' : t.length = 18 := by simpa using h
  have h1 : (t.drop 12).length = 6 := by rw [List.length_drop]; omega
  match hd : t.drop 12, h1 with
  | [s0, s1, s2, s3, s4, z], _ => exact ⟨a, b, c, t.take 12, [s0, s1, s2, s3, s4], z, by rw [show [s0, s1, s2, s3, s4] ++ [z] = t.drop 12 by rw [hd]; rfl, List.take_append_drop], by rw [List.length_take]; omega, rfl⟩
theorem list6 {A : Type} {l : List A} (h : l.length = 6) : ∃ a b c d e f, l = [a, b, c, d, e, f] := by
 match l, h with
 | [a, b, c, d, e, f], _ => exact ⟨a, b, c, d, e, f, rfl⟩
theorem op_of_cells {fuel : Nat} {cs : List Value} {y : DataW H × List MemPlace} (hf : DataW.trod enc Tryz.prog w base spare held fuel 66 cs = some y) : ∃ o : Opp, cs = encO o ∧ BdO w o := by
 obtain ⟨xs, n, _, hx, hl, hlen, hfl⟩ := DataW.trod_struct Tryz.underlying66 hf
 obtain ⟨c0, c1, c2, cr, ch, cl, rfl, hr, hh⟩ := list21 (hl.trans cells_Op)
 obtain ⟨y0, y1, y2, y3, y4, y5, rfl⟩ := list6 (l := xs) (by simpa using hlen)
 have g0 := hfl 0 _ rfl
 have g1 := hfl 1 _ rfl
 have g2 := hfl 2 _ rfl
 have g3 := hfl 3 _ rfl
 have g4 := hfl 4 _ rfl
 have g5 := hfl 5 _ rfl
 simp [cells_int, cells_Rule, cells_Header, cells_Rules, hr, hh] at g0 g1 g2 g3 g4 g5
 obtain ⟨p0, r0, t0, u0⟩ := DataW.trod_int Tryz.underlying3 g0
 obtain ⟨p1, r1, t1, u1⟩ := DataW.trod_int Tryz.underlying3 g1
 obtain ⟨p2, r2, t2, u2⟩ := DataW.trod_int Tryz.underlying3 g2
 obtain ⟨R, r3, b3⟩ := ru_of_cells g3
 obtain ⟨h, r4, b4⟩ := hd_of_cells g4
 have l5 : (cr ++ ch).length = 17 := by rw [List.length_append, hr, hh]
 have e5 : (cr ++ (ch ++ [cl])).drop 17 = [cl] := by rw [← List.append_assoc, ← l5, List.drop_left]
 rw [e5] at g5
 obtain ⟨l, s5, b5⟩ := rus_of_cells (v := cl) (by simpa using g5)
 simp at r0 r1 r2
 subst r0 r1 r2
 have e3 : cr = encU R := by first | exact r3 | (simpa [← hr] using r3)
 have e4 : ch = [.int .u32 h.s, .int .u32 h.d, .int .u16 h.p, .int .u16 h.q, .int .u8 h.r] := by first | exact r4 | (simpa [← hr, ← hh] using r4)
 subst e3 e4
 exact ⟨⟨p0, p1, p2, R, h, cl, l⟩, rfl, wf_sgn u0, wf_sgn u1, wf_sgn u2, b3, b4, s5, b5⟩
end Go.Proofs.YtgokmkholjfhbaaGreat
namespace Go.Proofs.YtgokmkholjfhbaaGreat
open Go.ChangeShapes Go.WideShapes Go.ChangeAt Go.RowKit Go.Joins
set_option maxRecDepth 100000
variable {H : Type} {enc : TypeId × Value → H} {w : World} {base : Nat} {spare : Nat → Bool} {held : Bool}
def opZ : Opp := ⟨0, 0, 0, ruZ, ⟨0, 0, 0, 0, 0⟩, .slice none 0 0, []⟩
def SrcO (w : World) (v : Value) (l : List Opp) : Prop :=
 ∃ (ad : Option Addr) (cap : Nat), v = .slice ad l.length cap ∧ (l.length ≤ cap ∧ (ad = none → cap = 0)) ∧ (0 < l.length → ∃ g off, ad = some ⟨g, off, none⟩ ∧ ∀ k (hk : k < l.length) j, j < 21 → w.cell? ⟨g, off + (k * 21 + j), none⟩ = (encO (l[k]'hk))[j]?)
theorem SrcO.rng {w : World} {ad : Option Addr} {n cap : Nat} {l : List Opp} (h : SrcO w (.slice ad n cap) l) (W : World) (hb : Below w.heap.size w W) (k : Nat) (hk : k < l.length) : ∃ g off, ad = some ⟨g, off, none⟩ ∧ W.rangeAt g (off + k * 21) (encO (l[k]'hk)) := by
 obtain ⟨ad', cap', e, hc, h2⟩ := h
 obtain ⟨rfl, e2, rfl⟩ : ad = ad' ∧ n = l.length ∧ cap = cap' := by cases e; exact ⟨rfl, rfl, rfl⟩
 obtain ⟨g, off, e, h3⟩ := h2 (by omega)
 refine ⟨g, off, e, fun j u hu => ?_⟩
 have hj : j < 21 := by
  have := (List.getElem?_eq_some_iff.1 hu).1
  simpa [encO, encU] using this
 have := h3 k hk j hj
 rw [show off + k * 21 + j = off + (k * 21 + j) by omega]
 exact cell_on1 hb (this.trans hu)
theorem ops_of_cells {fuel : Nat} {v : Value} {y : DataW H × List MemPlace} (hfu : DataW.trod enc Tryz.prog w base spare held fuel 46 [v] = some y) : ∃ l : List Opp, SrcO w v l ∧ ∀ R ∈ l, BdO w R := by
 rcases Go.Deep.open_slice Tryz.underlying46 hfu with ⟨hc, hx⟩ | ⟨a, len, cap, m, k, D, Pl, hc, _, hl, hm, hmm, hx, hall⟩
 ·simp at hc
  subst hc
  exact ⟨[], ⟨none, 0, rfl, ⟨Nat.le_refl _, fun _ => rfl⟩, fun h0 => absurd h0 (Nat.lt_irrefl _)⟩, fun s hs => by cases hs⟩
 ·simp at hc
  subst hc
  have hlm : len ≤ m := by rw [hmm]; split <;> omega
  have val : ∀ i, ∃ X : Opp, i < len → (∀ j, j < 21 → w.cell? ((a.add (i * 21)).add j) = (encO X)[j]?) ∧ BdO w X := by
   intro i
   by_cases hi : i < len
   ·obtain ⟨cs', h1, h2⟩ := hall i (by omega)
    rw [cells_Op] at h1
    obtain ⟨X, rfl, hb⟩ := op_of_cells h2
    exact ⟨X, fun _ => ⟨fun j hj => cells_at h1 j hj, hb⟩⟩
   ·exact ⟨opZ, fun h => absurd h hi⟩
  obtain ⟨f, hf⟩ : ∃ f : Nat → Opp, f = fun i => Classical.choose (val i) := ⟨_, rfl⟩
  have hF : ∀ i, i < len → (∀ j, j < 21 → w.cell? ((a.add (i * 21)).add j) = (encO (f i))[j]?) ∧ BdO w (f i) := by rw [hf]; exact fun i => Classical.choose_spec (val i)
  refine ⟨(List.range len).map f, ⟨some a, cap, by simp, ⟨by simpa using hl, fun e => by cases e⟩, fun h0 => ?_⟩, fun R hR => ?_⟩
  ·simp at h0
   have h00 := (hF 0 h0).1 0 (by decide)
   have hsp : a.spot = none := no_spot (h00.trans rfl)
   obtain ⟨b, off, spot⟩ := a
   simp only at hsp
   subst hsp
   refine ⟨b, off, rfl, fun i hi j hj => ?_⟩
   simp at hi
   have := (hF i hi).1 j hj
   rw [Addr.add_lit, Addr.add_lit, Nat.add_assoc] at this
   rw [this]
   simp
  ·obtain ⟨i, hi, rfl⟩ := List.mem_map.1 hR
   exact (hF i (List.mem_range.1 hi)).2
theorem open_ops {r : Reach} {b0 : Nat} {v : Value} {d : DataW H} {p : List MemPlace}
  (hv : Value.okWide Tryz.prog w r b0 46 v) (h : DataW.Trod enc Tryz.prog w base spare held 46 v d p) : ∃ l : List Opp, (SrcO w v l ∧ ∀ R ∈ l, BdO w R) ∧ True := by
 obtain ⟨a0, len, cap, rfl⟩ := okWide_slice Tryz.underlying46 hv
 obtain ⟨fuel, hfu⟩ := h
 obtain ⟨l, h1⟩ := ops_of_cells (by simpa [Value.cells] using hfu)
 exact ⟨l, h1, trivial⟩
def encHd (h : Hd) : List Value := [.int .u32 h.s, .int .u32 h.d, .int .u16 h.p, .int .u16 h.q, .int .u8 h.r]
def hdZ : Hd := ⟨0, 0, 0, 0, 0⟩
def SrcH (w : World) (v : Value) (l : List Hd) : Prop :=
 ∃ (ad : Option Addr) (cap : Nat), v = .slice ad l.length cap ∧ (l.length ≤ cap ∧ (ad = none → cap = 0)) ∧ (0 < l.length → ∃ g off, ad = some ⟨g, off, none⟩ ∧ ∀ k (hk : k < l.length) j, j < 5 → w.cell? ⟨g, off + (k * 5 + j), none⟩ = (encHd (l[k]'hk))[j]?)
theorem SrcH.rng {w : World} {ad : Option Addr} {n cap : Nat} {l : List Hd} (h : SrcH w (.slice ad n cap) l) (W : World) (hb : Below w.heap.size w W) (k : Nat) (hk : k < l.length) : ∃ g off, ad = some ⟨g, off, none⟩ ∧ W.rangeAt g (off + k * 5) (encHd (l[k]'hk)) := by
 obtain ⟨ad', cap', e, hc, h2⟩ := h
 obtain ⟨rfl, e2, rfl⟩ : ad = ad' ∧ n = l.length ∧ cap = cap' := by cases e; exact ⟨rfl, rfl, rfl⟩
 obtain ⟨g, off, e, h3⟩ := h2 (by omega)
 refine ⟨g, off, e, fun j u hu => ?_⟩
 have hj : j < 5 := by
  have := (List.getElem?_eq_some_iff.1 hu).1
  simpa [encHd] using this
 have := h3 k hk j hj
 rw [show off + k * 5 + j = off + (k * 5 + j) by omega]
 exact cell_on1 hb (this.trans hu)
theorem hds_of_cells {fuel : Nat} {v : Value} {y : DataW H × List MemPlace} (hfu : DataW.trod enc Tryz.prog w base spare held fuel 47 [v] = some y) : ∃ l : List Hd, SrcH w v l ∧ ∀ R ∈ l, OkH R := by
 rcases Go.Deep.open_slice Tryz.underlying47 hfu with ⟨hc, hx⟩ | ⟨a, len, cap, m, k, D, Pl, hc, _, hl, hm, hmm, hx, hall⟩
 ·simp at hc
  subst hc
  exact ⟨[], ⟨none, 0, rfl, ⟨Nat.le_refl _, fun _ => rfl⟩, fun h0 => absurd h0 (Nat.lt_irrefl _)⟩, fun s hs => by cases hs⟩
 ·simp at hc
  subst hc
  have hlm : len ≤ m := by rw [hmm]; split <;> omega
  have val : ∀ i, ∃ X : Hd, i < len → (∀ j, j < 5 → w.cell? ((a.add (i * 5)).add j) = (encHd X)[j]?) ∧ OkH X := by
   intro i
   by_cases hi : i < len
   ·obtain ⟨cs', h1, h2⟩ := hall i (by omega)
    rw [cells_Header] at h1
    obtain ⟨X, rfl, hb⟩ := hd_of_cells h2
    exact ⟨X, fun _ => ⟨fun j hj => cells_at h1 j hj, hb⟩⟩
   ·exact ⟨hdZ, fun h => absurd h hi⟩
  obtain ⟨f, hf⟩ : ∃ f : Nat → Hd, f = fun i => Classical.choose (val i) := ⟨_, rfl⟩
  have hF : ∀ i, i < len → (∀ j, j < 5 → w.cell? ((a.add (i * 5)).add j) = (encHd (f i))[j]?) ∧ OkH (f i) := by rw [hf]; exact fun i => Classical.choose_spec (val i)
  refine ⟨(List.range len).map f, ⟨some a, cap, by simp, ⟨by simpa using hl, fun e => by cases e⟩, fun h0 => ?_⟩, fun R hR => ?_⟩
  ·simp at h0
   have h00 := (hF 0 h0).1 0 (by decide)
   have hsp : a.spot = none := no_spot (h00.trans rfl)
   obtain ⟨b, off, spot⟩ := a
   simp only at hsp
   subst hsp
   refine ⟨b, off, rfl, fun i hi j hj => ?_⟩
   simp at hi
   have := (hF i hi).1 j hj
   rw [Addr.add_lit, Addr.add_lit, Nat.add_assoc] at this
   rw [this]
   simp
  ·obtain ⟨i, hi, rfl⟩ := List.mem_map.1 hR
   exact (hF i (List.mem_range.1 hi)).2
theorem open_hds {r : Reach} {b0 : Nat} {v : Value} {d : DataW H} {p : List MemPlace}
  (hv : Value.okWide Tryz.prog w r b0 47 v) (h : DataW.Trod enc Tryz.prog w base spare held 47 v d p) : ∃ l : List Hd, (SrcH w v l ∧ ∀ R ∈ l, OkH R) ∧ True := by
 obtain ⟨a0, len, cap, rfl⟩ := okWide_slice Tryz.underlying47 hv
 obtain ⟨fuel, hfu⟩ := h
 obtain ⟨l, h1⟩ := hds_of_cells (by simpa [Value.cells] using hfu)
 exact ⟨l, h1, trivial⟩
end Go.Proofs.YtgokmkholjfhbaaGreat
