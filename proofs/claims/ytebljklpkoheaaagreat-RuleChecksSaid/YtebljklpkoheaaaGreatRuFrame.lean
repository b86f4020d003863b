/-
  A rule among the arguments: opened into its numbers, and shut again. Written by tools/mkRuFrame.py.
-/
import Derived.Test.YtebljklpkoheaaaGreatBxFrame
import Derived.Test.YtebljklpkoheaaaGreatRuPlE
namespace Go.Proofs.YtebljklpkoheaaaGreat
open Go.ChangeShapes Go.WideShapes Go.ChangeAt Go.RowKit Go.Joins
set_option linter.unusedVariables false
set_option maxRecDepth 20000

theorem cells_int : Tryz.prog.cellsOf 3 = 1 := by kernel_rfl
theorem cells_Action : Tryz.prog.cellsOf 30 = 1 := by kernel_rfl
theorem cells_Prefix : Tryz.prog.cellsOf 24 = 2 := by kernel_rfl
theorem cells_Rule : Tryz.prog.cellsOf 32 = 12 := by kernel_rfl
theorem i64_wf {a : Int} (h : I64 a) : (Lit.int .i64 a).wf = true := by
  obtain ⟨h1, h2⟩ := h
  have e1 : IntKind.i64.min = -9223372036854775808 := rfl
  have e2 : IntKind.i64.max = 9223372036854775807 := rfl
  simp [Lit.wf, e1, e2]
  omega
theorem twelveA {α : Type} {cs : Array α} (h : cs.size = 12) : ∃ a b c d e f g i j k l m, cs = #[a, b, c, d, e, f, g, i, j, k, l, m] := by
  obtain ⟨l⟩ := cs
  match l, h with
  | [a, b, c, d, e, f, g, i, j, k, l, m], _ => exact ⟨a, b, c, d, e, f, g, i, j, k, l, m, rfl⟩
theorem seven {α : Type} {l : List α} (h : l.length = 7) : ∃ a b c d e f g, l = [a, b, c, d, e, f, g] := by
  match l, h with
  | [a, b, c, d, e, f, g], _ => exact ⟨a, b, c, d, e, f, g, rfl⟩
theorem open_Prefix {H : Type} {enc : TypeId × Value → H} {w : World} {base : Nat} {spare : Nat → Bool} {held : Bool} {fuel : Nat} {c0 c1 : Value} {y : DataW H × List MemPlace}
    (h : DataW.trod enc Tryz.prog w base spare held fuel 24 [c0, c1] = some y) : ∃ (p : Nat) (q : Int), c0 = .int .u32 (p : Int) ∧ c1 = .int .i64 q ∧ y = (.agg [.lit (.int .u32 (p : Int)), .lit (.int .i64 q)], []) ∧ (Lit.int .u32 (p : Int)).wf = true ∧ (Lit.int .i64 q).wf = true := by
  obtain ⟨y0, y1, n, hx, hl, g0, g1⟩ := trod_struct2 Tryz.underlying24 h
  simp [cells_u32, cells_int] at g0 g1
  obtain ⟨a0, e0, rfl, w0⟩ := DataW.trod_int Tryz.underlying22 g0
  obtain ⟨a1, e1, rfl, w1⟩ := DataW.trod_int Tryz.underlying3 g1
  simp at e0 e1
  subst e0 e1
  obtain ⟨k0, rfl, l0⟩ := wf_u32 w0
  exact ⟨k0, a1, rfl, rfl, by simpa using hx, w0, w1⟩
theorem shut_Prefix {H : Type} {enc : TypeId × Value → H} {w : World} {base : Nat} {spare : Nat → Bool} {held : Bool} {x : Nat} {y : Int} (w0 : (Lit.int .u32 (x : Int)).wf = true) (w1 : (Lit.int .i64 y).wf = true) :
    DataW.trod enc Tryz.prog w base spare held 2 24 [.int .u32 (x : Int), .int .i64 y] = some (.agg [.lit (.int .u32 (x : Int)), .lit (.int .i64 y)], []) := by
  have := trod_struct2_mk (enc := enc) (w := w) (base := base) (spare := spare) (held := held) (n := 1) (cs := [.int .u32 (x : Int), .int .i64 y]) (y0 := (.lit (.int .u32 (x : Int)), [])) (y1 := (.lit (.int .i64 y), [])) Tryz.underlying24 (by simp [cells_Prefix])
    (by simpa [cells_u32] using trod_int_mk 0 Tryz.underlying22 w0) (by simpa [cells_u32, cells_int] using trod_int_mk 0 Tryz.underlying3 w1)
  simpa using this
theorem open_ru {H : Type} {enc : TypeId × Value → H} {w : World} {base : Nat} {spare : Nat → Bool} {held : Bool} {r : Reach} {b0 : Nat} {v : Value} {d : DataW H} {p : List MemPlace}
    (hv : Value.okWide Tryz.prog w r b0 32 v) (ht : DataW.Trod enc Tryz.prog w base spare held 32 v d p) :
    ∃ X : Ru, v = .agg #[.int .i64 X.i, .int .u32 (X.s : Int), .int .i64 X.sl, .int .u32 (X.d : Int), .int .i64 X.dl, .int .u16 (X.p.1 : Int), .int .u16 (X.p.2 : Int), .int .u16 (X.q.1 : Int), .int .u16 (X.q.2 : Int), .int .u8 (X.m.1 : Int), .int .u8 (X.m.2 : Int), .int .i64 X.act] ∧ d = .agg [.lit (.int .i64 X.i), .agg [.lit (.int .u32 (X.s : Int)), .lit (.int .i64 X.sl)], .agg [.lit (.int .u32 (X.d : Int)), .lit (.int .i64 X.dl)], .agg [.lit (.int .u16 (X.p.1 : Int)), .lit (.int .u16 (X.p.2 : Int))], .agg [.lit (.int .u16 (X.q.1 : Int)), .lit (.int .u16 (X.q.2 : Int))], .agg [.lit (.int .u8 (X.m.1 : Int)), .lit (.int .u8 (X.m.2 : Int))], .lit (.int .i64 X.act)] ∧ p = [] ∧ BdR X := by
  obtain ⟨cs, rfl, hsz⟩ := okWide_struct Tryz.underlying32 hv
  obtain ⟨c0, c1, c2, c3, c4, c5, c6, c7, c8, c9, c10, c11, rfl⟩ := twelveA (hsz.trans cells_Rule)
  obtain ⟨fuel, hf⟩ := ht
  obtain ⟨xs, n, _, hx, hl, hlen, hfl⟩ := DataW.trod_struct Tryz.underlying32 hf
  obtain ⟨y0, y1, y2, y3, y4, y5, y6, rfl⟩ := seven (l := xs) (by simpa using hlen)
  have g0 := hfl 0 _ rfl
  have g1 := hfl 1 _ rfl
  have g2 := hfl 2 _ rfl
  have g3 := hfl 3 _ rfl
  have g4 := hfl 4 _ rfl
  have g5 := hfl 5 _ rfl
  have g6 := hfl 6 _ rfl
  simp [Value.cells, cells_int, cells_Action, cells_Prefix, cells_Span, cells_Mask] at g0 g1 g2 g3 g4 g5 g6 hx
  obtain ⟨p0, r0, t0, u0⟩ := DataW.trod_int Tryz.underlying3 g0
  obtain ⟨p1, n1, r1, s1, t1, u1, v1⟩ := open_Prefix g1
  obtain ⟨p2, n2, r2, s2, t2, u2, v2⟩ := open_Prefix g2
  obtain ⟨p3, r3, s3, t3, u3, v3⟩ := open_Span g3
  obtain ⟨p4, r4, s4, t4, u4, v4⟩ := open_Span g4
  obtain ⟨p5, r5, s5, t5, u5, v5⟩ := open_Mask g5
  obtain ⟨p6, r6, t6, u6⟩ := DataW.trod_int Tryz.underlying30 g6
  simp at r0 r6
  subst t0 t1 t2 t3 t4 t5 t6
  subst r0 r1 r2 r3 r4 r5 r6 s1 s2 s3 s4 s5
  obtain ⟨_, _, l1⟩ := wf_u32 u1
  obtain ⟨_, _, l2⟩ := wf_u32 u2
  obtain ⟨_, _, l3⟩ := wf_u16 u3
  obtain ⟨_, _, l4⟩ := wf_u16 v3
  obtain ⟨_, _, l5⟩ := wf_u16 u4
  obtain ⟨_, _, l6⟩ := wf_u16 v4
  obtain ⟨_, _, l7⟩ := wf_u8 u5
  obtain ⟨_, _, l8⟩ := wf_u8 v5
  exact ⟨⟨p0, p1, n1, p2, n2, p3, p4, p5, p6⟩, rfl, by simpa using hx.1, by simpa using hx.2, by show p1 < _; omega, by show p2 < _; omega, by show p3.1 < _; omega, by show p3.2 < _; omega, by show p4.1 < _; omega, by show p4.2 < _; omega, by show p5.1 < _; omega, by show p5.2 < _; omega, wf_i64 u0, wf_i64 v1, wf_i64 v2, wf_i64 u6⟩
theorem shut_ru {H : Type} {enc : TypeId × Value → H} {w : World} {base : Nat} {spare : Nat → Bool} {held : Bool} {X : Ru} (o : BdR X) :
    DataW.Trod enc Tryz.prog w base spare held 32 (.agg #[.int .i64 X.i, .int .u32 (X.s : Int), .int .i64 X.sl, .int .u32 (X.d : Int), .int .i64 X.dl, .int .u16 (X.p.1 : Int), .int .u16 (X.p.2 : Int), .int .u16 (X.q.1 : Int), .int .u16 (X.q.2 : Int), .int .u8 (X.m.1 : Int), .int .u8 (X.m.2 : Int), .int .i64 X.act]) (.agg [.lit (.int .i64 X.i), .agg [.lit (.int .u32 (X.s : Int)), .lit (.int .i64 X.sl)], .agg [.lit (.int .u32 (X.d : Int)), .lit (.int .i64 X.dl)], .agg [.lit (.int .u16 (X.p.1 : Int)), .lit (.int .u16 (X.p.2 : Int))], .agg [.lit (.int .u16 (X.q.1 : Int)), .lit (.int .u16 (X.q.2 : Int))], .agg [.lit (.int .u8 (X.m.1 : Int)), .lit (.int .u8 (X.m.2 : Int))], .lit (.int .i64 X.act)]) [] := by
  obtain ⟨l1, l2, l3, l4, l5, l6, l7, l8, l9, l10, l11, l12⟩ := o
  have m32 : IntKind.u32.max = 4294967295 := rfl
  have m16 : IntKind.u16.max = 65535 := rfl
  have m8 : IntKind.u8.max = 255 := rfl
  have w0 : (Lit.int .i64 X.i).wf = true := i64_wf l9
  have w1 : (Lit.int .u32 (X.s : Int)).wf = true := lit_wf rfl (by rw [m32]; omega)
  have w2 : (Lit.int .i64 X.sl).wf = true := i64_wf l10
  have w3 : (Lit.int .u32 (X.d : Int)).wf = true := lit_wf rfl (by rw [m32]; omega)
  have w4 : (Lit.int .i64 X.dl).wf = true := i64_wf l11
  have w5 : (Lit.int .u16 (X.p.1 : Int)).wf = true := lit_wf rfl (by rw [m16]; omega)
  have w6 : (Lit.int .u16 (X.p.2 : Int)).wf = true := lit_wf rfl (by rw [m16]; omega)
  have w7 : (Lit.int .u16 (X.q.1 : Int)).wf = true := lit_wf rfl (by rw [m16]; omega)
  have w8 : (Lit.int .u16 (X.q.2 : Int)).wf = true := lit_wf rfl (by rw [m16]; omega)
  have w9 : (Lit.int .u8 (X.m.1 : Int)).wf = true := lit_wf rfl (by rw [m8]; omega)
  have w10 : (Lit.int .u8 (X.m.2 : Int)).wf = true := lit_wf rfl (by rw [m8]; omega)
  have w11 : (Lit.int .i64 X.act).wf = true := i64_wf l12
  have z0 := trod_int_mk (enc := enc) (w := w) (base := base) (spare := spare) (held := held) 1 Tryz.underlying3 w0
  have z1 := shut_Prefix (enc := enc) (w := w) (base := base) (spare := spare) (held := held) w1 w2
  have z2 := shut_Prefix (enc := enc) (w := w) (base := base) (spare := spare) (held := held) w3 w4
  have z3 := shut_Span (enc := enc) (w := w) (base := base) (spare := spare) (held := held) w5 w6
  have z4 := shut_Span (enc := enc) (w := w) (base := base) (spare := spare) (held := held) w7 w8
  have z5 := shut_Mask (enc := enc) (w := w) (base := base) (spare := spare) (held := held) w9 w10
  have z6 := trod_int_mk (enc := enc) (w := w) (base := base) (spare := spare) (held := held) 1 Tryz.underlying30 w11
  have := trod_struct_mk (enc := enc) (w := w) (base := base) (spare := spare) (held := held) (n := 2) (cs := [.int .i64 X.i, .int .u32 (X.s : Int), .int .i64 X.sl, .int .u32 (X.d : Int), .int .i64 X.dl, .int .u16 (X.p.1 : Int), .int .u16 (X.p.2 : Int), .int .u16 (X.q.1 : Int), .int .u16 (X.q.2 : Int), .int .u8 (X.m.1 : Int), .int .u8 (X.m.2 : Int), .int .i64 X.act]) (xs := [(.lit (.int .i64 X.i), []), (.agg [.lit (.int .u32 (X.s : Int)), .lit (.int .i64 X.sl)], []), (.agg [.lit (.int .u32 (X.d : Int)), .lit (.int .i64 X.dl)], []), (.agg [.lit (.int .u16 (X.p.1 : Int)), .lit (.int .u16 (X.p.2 : Int))], []), (.agg [.lit (.int .u16 (X.q.1 : Int)), .lit (.int .u16 (X.q.2 : Int))], []), (.agg [.lit (.int .u8 (X.m.1 : Int)), .lit (.int .u8 (X.m.2 : Int))], []), (.lit (.int .i64 X.act), [])]) Tryz.underlying32 (by simp [cells_Rule])
    (by simp [cells_int, cells_Action, cells_Prefix, cells_Span, cells_Mask, z0, z1, z2, z3, z4, z5, z6])
  exact ⟨3, by simpa [Value.cells] using this⟩
end Go.Proofs.YtebljklpkoheaaaGreat
