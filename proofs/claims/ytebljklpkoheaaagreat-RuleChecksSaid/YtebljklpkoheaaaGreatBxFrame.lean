/-
  A box, a header among the arguments: opened into their numbers, and shut again. Written by tools/mkBxFrame.py.
-/
import Derived.Test.YtebljklpkoheaaaGreatRows
import Derived.ProofKit
import Derived.OpenShut
import Derived.Lib.SmallJoins
import Derived.ChangeSlices
import Derived.Carry
import Derived.Test.YtebljklpkoheaaaGreatBxK
namespace Go.Proofs.YtebljklpkoheaaaGreat
open Go.ChangeShapes Go.WideShapes Go.ChangeAt Go.RowKit Go.Joins
set_option linter.unusedVariables false
set_option maxRecDepth 20000

theorem own : ownKnob Tryz.prog.godebug = none := by kernel_rfl
theorem cells_hd : Tryz.prog.cellsOf 34 = 5 := by kernel_rfl
theorem cells_u8 : Tryz.prog.cellsOf 5 = 1 := by kernel_rfl
theorem cells_u16 : Tryz.prog.cellsOf 25 = 1 := by kernel_rfl
theorem cells_u32 : Tryz.prog.cellsOf 22 = 1 := by kernel_rfl
theorem laidOut : laidOutB Tryz.prog = true := by kernel_rfl
theorem wf_u8 {a : Int} (h : (Lit.int .u8 a).wf = true) : ∃ k : Nat, a = (k : Int) ∧ k < 256 := by
  have h1 : IntKind.u8.min ≤ a ∧ a ≤ IntKind.u8.max := by simpa [Lit.wf] using h
  have e1 : IntKind.u8.min = 0 := rfl
  have e2 : IntKind.u8.max = 255 := rfl
  exact ⟨a.toNat, by omega, by omega⟩
theorem wf_i64 {a : Int} (h : (Lit.int .i64 a).wf = true) : -9223372036854775808 ≤ a ∧ a ≤ 9223372036854775807 := by
  have h1 : IntKind.i64.min ≤ a ∧ a ≤ IntKind.i64.max := by simpa [Lit.wf] using h
  have e1 : IntKind.i64.min = -9223372036854775808 := rfl
  have e2 : IntKind.i64.max = 9223372036854775807 := rfl
  omega
theorem wf_u16 {a : Int} (h : (Lit.int .u16 a).wf = true) : ∃ k : Nat, a = (k : Int) ∧ k < 65536 := by
  have h1 : IntKind.u16.min ≤ a ∧ a ≤ IntKind.u16.max := by simpa [Lit.wf] using h
  have e1 : IntKind.u16.min = 0 := rfl
  have e2 : IntKind.u16.max = 65535 := rfl
  exact ⟨a.toNat, by omega, by omega⟩
theorem wf_u32 {a : Int} (h : (Lit.int .u32 a).wf = true) : ∃ k : Nat, a = (k : Int) ∧ k < 4294967296 := by
  have h1 : IntKind.u32.min ≤ a ∧ a ≤ IntKind.u32.max := by simpa [Lit.wf] using h
  have e1 : IntKind.u32.min = 0 := rfl
  have e2 : IntKind.u32.max = 4294967295 := rfl
  exact ⟨a.toNat, by omega, by omega⟩
theorem five {α : Type} {l : List α} (h : l.length = 5) : ∃ a b c d e, l = [a, b, c, d, e] := by
  match l, h with
  | [a, b, c, d, e], _ => exact ⟨a, b, c, d, e, rfl⟩
theorem fiveA {α : Type} {cs : Array α} (h : cs.size = 5) : ∃ a b c d e, cs = #[a, b, c, d, e] := by
  obtain ⟨l⟩ := cs
  obtain ⟨a, b, c, d, e, rfl⟩ := five (l := l) h
  exact ⟨a, b, c, d, e, rfl⟩
theorem open_hd {H : Type} {enc : TypeId × Value → H} {w : World} {base : Nat} {spare : Nat → Bool} {held : Bool} {r : Reach} {b0 : Nat} {v : Value} {d : DataW H} {p : List MemPlace}
    (hv : Value.okWide Tryz.prog w r b0 34 v) (ht : DataW.Trod enc Tryz.prog w base spare held 34 v d p) :
    ∃ h : Hd, v = .agg #[.int .u32 (h.s : Int), .int .u32 (h.d : Int), .int .u16 (h.p : Int), .int .u16 (h.q : Int), .int .u8 (h.r : Int)] ∧ d = .agg [.lit (.int .u32 (h.s : Int)), .lit (.int .u32 (h.d : Int)), .lit (.int .u16 (h.p : Int)), .lit (.int .u16 (h.q : Int)), .lit (.int .u8 (h.r : Int))] ∧ p = [] ∧ OkH h := by
  obtain ⟨cs, rfl, hsz⟩ := okWide_struct Tryz.underlying34 hv
  obtain ⟨c0, c1, c2, c3, c4, rfl⟩ := fiveA (hsz.trans cells_hd)
  obtain ⟨fuel, hf⟩ := ht
  obtain ⟨xs, n, _, hx, hl, hlen, hfl⟩ := DataW.trod_struct Tryz.underlying34 hf
  obtain ⟨y0, y1, y2, y3, y4, rfl⟩ := five (l := xs) (by simpa using hlen)
  have g0 := hfl 0 _ rfl
  have g1 := hfl 1 _ rfl
  have g2 := hfl 2 _ rfl
  have g3 := hfl 3 _ rfl
  have g4 := hfl 4 _ rfl
  simp [Value.cells, cells_u8, cells_u16, cells_u32] at g0 g1 g2 g3 g4 hx
  obtain ⟨a0, e0, rfl, w0⟩ := DataW.trod_int Tryz.underlying22 g0
  obtain ⟨a1, e1, rfl, w1⟩ := DataW.trod_int Tryz.underlying22 g1
  obtain ⟨a2, e2, rfl, w2⟩ := DataW.trod_int Tryz.underlying25 g2
  obtain ⟨a3, e3, rfl, w3⟩ := DataW.trod_int Tryz.underlying25 g3
  obtain ⟨a4, e4, rfl, w4⟩ := DataW.trod_int Tryz.underlying5 g4
  simp at e0 e1 e2 e3 e4
  subst e0 e1 e2 e3 e4
  obtain ⟨k0, rfl, l0⟩ := wf_u32 w0
  obtain ⟨k1, rfl, l1⟩ := wf_u32 w1
  obtain ⟨k2, rfl, l2⟩ := wf_u16 w2
  obtain ⟨k3, rfl, l3⟩ := wf_u16 w3
  obtain ⟨k4, rfl, l4⟩ := wf_u8 w4
  refine ⟨⟨k0, k1, k2, k3, k4⟩, rfl, by simpa using hx.1, by simpa using hx.2, l0, l1, l2, l3, l4⟩
theorem lit_wf {k : IntKind} {n : Nat} (h0 : k.min = 0) (h1 : (n : Int) ≤ k.max) : (Lit.int k (n : Int)).wf = true := by
  simp [Lit.wf, h0]
  exact h1
theorem shut_hd {H : Type} {enc : TypeId × Value → H} {w : World} {base : Nat} {spare : Nat → Bool} {held : Bool} {h : Hd} (o : OkH h) :
    DataW.Trod enc Tryz.prog w base spare held 34 (.agg #[.int .u32 (h.s : Int), .int .u32 (h.d : Int), .int .u16 (h.p : Int), .int .u16 (h.q : Int), .int .u8 (h.r : Int)]) (.agg [.lit (.int .u32 (h.s : Int)), .lit (.int .u32 (h.d : Int)), .lit (.int .u16 (h.p : Int)), .lit (.int .u16 (h.q : Int)), .lit (.int .u8 (h.r : Int))]) [] := by
  obtain ⟨l0, l1, l2, l3, l4⟩ := o
  have m32 : IntKind.u32.max = 4294967295 := rfl
  have m16 : IntKind.u16.max = 65535 := rfl
  have m8 : IntKind.u8.max = 255 := rfl
  have w0 : (Lit.int .u32 (h.s : Int)).wf = true := lit_wf rfl (by rw [m32]; omega)
  have w1 : (Lit.int .u32 (h.d : Int)).wf = true := lit_wf rfl (by rw [m32]; omega)
  have w2 : (Lit.int .u16 (h.p : Int)).wf = true := lit_wf rfl (by rw [m16]; omega)
  have w3 : (Lit.int .u16 (h.q : Int)).wf = true := lit_wf rfl (by rw [m16]; omega)
  have w4 : (Lit.int .u8 (h.r : Int)).wf = true := lit_wf rfl (by rw [m8]; omega)
  have := trod_struct_mk (enc := enc) (w := w) (base := base) (spare := spare) (held := held) (n := 1) (cs := [.int .u32 (h.s : Int), .int .u32 (h.d : Int), .int .u16 (h.p : Int), .int .u16 (h.q : Int), .int .u8 (h.r : Int)]) (xs := [(.lit (.int .u32 (h.s : Int)), []), (.lit (.int .u32 (h.d : Int)), []), (.lit (.int .u16 (h.p : Int)), []), (.lit (.int .u16 (h.q : Int)), []), (.lit (.int .u8 (h.r : Int)), [])]) Tryz.underlying34 (by simp [cells_hd])
    (by simp [cells_u8, cells_u16, cells_u32, DataW.trod, Tryz.underlying5, Tryz.underlying25, Tryz.underlying22, w0, w1, w2, w3, w4])
  exact ⟨2, by simpa [Value.cells] using this⟩

theorem cells_Run : Tryz.prog.cellsOf 39 = 2 := by kernel_rfl
theorem cells_Span : Tryz.prog.cellsOf 27 = 2 := by kernel_rfl
theorem cells_Mask : Tryz.prog.cellsOf 29 = 2 := by kernel_rfl
theorem cells_Box : Tryz.prog.cellsOf 41 = 10 := by kernel_rfl
theorem tenA {α : Type} {cs : Array α} (h : cs.size = 10) : ∃ a b c d e f g i j k, cs = #[a, b, c, d, e, f, g, i, j, k] := by
  obtain ⟨l⟩ := cs
  match l, h with
  | [a, b, c, d, e, f, g, i, j, k], _ => exact ⟨a, b, c, d, e, f, g, i, j, k, rfl⟩
theorem open_Run {H : Type} {enc : TypeId × Value → H} {w : World} {base : Nat} {spare : Nat → Bool} {held : Bool} {fuel : Nat} {c0 c1 : Value} {y : DataW H × List MemPlace}
    (h : DataW.trod enc Tryz.prog w base spare held fuel 39 [c0, c1] = some y) : ∃ p : Nat × Nat, c0 = .int .u32 (p.1 : Int) ∧ c1 = .int .u32 (p.2 : Int) ∧ y = (.agg [.lit (.int .u32 (p.1 : Int)), .lit (.int .u32 (p.2 : Int))], []) ∧ (Lit.int .u32 (p.1 : Int)).wf = true ∧ (Lit.int .u32 (p.2 : Int)).wf = true := by
  obtain ⟨y0, y1, n, hx, hl, g0, g1⟩ := trod_struct2 Tryz.underlying39 h
  simp [cells_u32] at g0 g1
  obtain ⟨a0, e0, rfl, w0⟩ := DataW.trod_int Tryz.underlying22 g0
  obtain ⟨a1, e1, rfl, w1⟩ := DataW.trod_int Tryz.underlying22 g1
  simp at e0 e1
  subst e0 e1
  obtain ⟨k0, rfl, l0⟩ := wf_u32 w0
  obtain ⟨k1, rfl, l1⟩ := wf_u32 w1
  exact ⟨(k0, k1), rfl, rfl, by simpa using hx, w0, w1⟩
theorem shut_Run {H : Type} {enc : TypeId × Value → H} {w : World} {base : Nat} {spare : Nat → Bool} {held : Bool} {x y : Nat} (w0 : (Lit.int .u32 (x : Int)).wf = true) (w1 : (Lit.int .u32 (y : Int)).wf = true) :
    DataW.trod enc Tryz.prog w base spare held 2 39 [.int .u32 (x : Int), .int .u32 (y : Int)] = some (.agg [.lit (.int .u32 (x : Int)), .lit (.int .u32 (y : Int))], []) := by
  have := trod_struct2_mk (enc := enc) (w := w) (base := base) (spare := spare) (held := held) (n := 1) (cs := [.int .u32 (x : Int), .int .u32 (y : Int)]) (y0 := (.lit (.int .u32 (x : Int)), [])) (y1 := (.lit (.int .u32 (y : Int)), [])) Tryz.underlying39 (by simp [cells_Run])
    (by simpa [cells_u32] using trod_int_mk 0 Tryz.underlying22 w0) (by simpa [cells_u32] using trod_int_mk 0 Tryz.underlying22 w1)
  simpa using this
theorem open_Span {H : Type} {enc : TypeId × Value → H} {w : World} {base : Nat} {spare : Nat → Bool} {held : Bool} {fuel : Nat} {c0 c1 : Value} {y : DataW H × List MemPlace}
    (h : DataW.trod enc Tryz.prog w base spare held fuel 27 [c0, c1] = some y) : ∃ p : Nat × Nat, c0 = .int .u16 (p.1 : Int) ∧ c1 = .int .u16 (p.2 : Int) ∧ y = (.agg [.lit (.int .u16 (p.1 : Int)), .lit (.int .u16 (p.2 : Int))], []) ∧ (Lit.int .u16 (p.1 : Int)).wf = true ∧ (Lit.int .u16 (p.2 : Int)).wf = true := by
  obtain ⟨y0, y1, n, hx, hl, g0, g1⟩ := trod_struct2 Tryz.underlying27 h
  simp [cells_u16] at g0 g1
  obtain ⟨a0, e0, rfl, w0⟩ := DataW.trod_int Tryz.underlying25 g0
  obtain ⟨a1, e1, rfl, w1⟩ := DataW.trod_int Tryz.underlying25 g1
  simp at e0 e1
  subst e0 e1
  obtain ⟨k0, rfl, l0⟩ := wf_u16 w0
  obtain ⟨k1, rfl, l1⟩ := wf_u16 w1
  exact ⟨(k0, k1), rfl, rfl, by simpa using hx, w0, w1⟩
theorem shut_Span {H : Type} {enc : TypeId × Value → H} {w : World} {base : Nat} {spare : Nat → Bool} {held : Bool} {x y : Nat} (w0 : (Lit.int .u16 (x : Int)).wf = true) (w1 : (Lit.int .u16 (y : Int)).wf = true) :
    DataW.trod enc Tryz.prog w base spare held 2 27 [.int .u16 (x : Int), .int .u16 (y : Int)] = some (.agg [.lit (.int .u16 (x : Int)), .lit (.int .u16 (y : Int))], []) := by
  have := trod_struct2_mk (enc := enc) (w := w) (base := base) (spare := spare) (held := held) (n := 1) (cs := [.int .u16 (x : Int), .int .u16 (y : Int)]) (y0 := (.lit (.int .u16 (x : Int)), [])) (y1 := (.lit (.int .u16 (y : Int)), [])) Tryz.underlying27 (by simp [cells_Span])
    (by simpa [cells_u16] using trod_int_mk 0 Tryz.underlying25 w0) (by simpa [cells_u16] using trod_int_mk 0 Tryz.underlying25 w1)
  simpa using this
theorem open_Mask {H : Type} {enc : TypeId × Value → H} {w : World} {base : Nat} {spare : Nat → Bool} {held : Bool} {fuel : Nat} {c0 c1 : Value} {y : DataW H × List MemPlace}
    (h : DataW.trod enc Tryz.prog w base spare held fuel 29 [c0, c1] = some y) : ∃ p : Nat × Nat, c0 = .int .u8 (p.1 : Int) ∧ c1 = .int .u8 (p.2 : Int) ∧ y = (.agg [.lit (.int .u8 (p.1 : Int)), .lit (.int .u8 (p.2 : Int))], []) ∧ (Lit.int .u8 (p.1 : Int)).wf = true ∧ (Lit.int .u8 (p.2 : Int)).wf = true := by
  obtain ⟨y0, y1, n, hx, hl, g0, g1⟩ := trod_struct2 Tryz.underlying29 h
  simp [cells_u8] at g0 g1
  obtain ⟨a0, e0, rfl, w0⟩ := DataW.trod_int Tryz.underlying5 g0
  obtain ⟨a1, e1, rfl, w1⟩ := DataW.trod_int Tryz.underlying5 g1
  simp at e0 e1
  subst e0 e1
  obtain ⟨k0, rfl, l0⟩ := wf_u8 w0
  obtain ⟨k1, rfl, l1⟩ := wf_u8 w1
  exact ⟨(k0, k1), rfl, rfl, by simpa using hx, w0, w1⟩
theorem shut_Mask {H : Type} {enc : TypeId × Value → H} {w : World} {base : Nat} {spare : Nat → Bool} {held : Bool} {x y : Nat} (w0 : (Lit.int .u8 (x : Int)).wf = true) (w1 : (Lit.int .u8 (y : Int)).wf = true) :
    DataW.trod enc Tryz.prog w base spare held 2 29 [.int .u8 (x : Int), .int .u8 (y : Int)] = some (.agg [.lit (.int .u8 (x : Int)), .lit (.int .u8 (y : Int))], []) := by
  have := trod_struct2_mk (enc := enc) (w := w) (base := base) (spare := spare) (held := held) (n := 1) (cs := [.int .u8 (x : Int), .int .u8 (y : Int)]) (y0 := (.lit (.int .u8 (x : Int)), [])) (y1 := (.lit (.int .u8 (y : Int)), [])) Tryz.underlying29 (by simp [cells_Mask])
    (by simpa [cells_u8] using trod_int_mk 0 Tryz.underlying5 w0) (by simpa [cells_u8] using trod_int_mk 0 Tryz.underlying5 w1)
  simpa using this
theorem open_bx {H : Type} {enc : TypeId × Value → H} {w : World} {base : Nat} {spare : Nat → Bool} {held : Bool} {r : Reach} {b0 : Nat} {v : Value} {d : DataW H} {p : List MemPlace}
    (hv : Value.okWide Tryz.prog w r b0 41 v) (ht : DataW.Trod enc Tryz.prog w base spare held 41 v d p) :
    ∃ X : Bx, v = .agg #[.int .u32 (X.a.1 : Int), .int .u32 (X.a.2 : Int), .int .u32 (X.b.1 : Int), .int .u32 (X.b.2 : Int), .int .u16 (X.c.1 : Int), .int .u16 (X.c.2 : Int), .int .u16 (X.d.1 : Int), .int .u16 (X.d.2 : Int), .int .u8 (X.m.1 : Int), .int .u8 (X.m.2 : Int)] ∧ d = .agg [.agg [.lit (.int .u32 (X.a.1 : Int)), .lit (.int .u32 (X.a.2 : Int))], .agg [.lit (.int .u32 (X.b.1 : Int)), .lit (.int .u32 (X.b.2 : Int))], .agg [.lit (.int .u16 (X.c.1 : Int)), .lit (.int .u16 (X.c.2 : Int))], .agg [.lit (.int .u16 (X.d.1 : Int)), .lit (.int .u16 (X.d.2 : Int))], .agg [.lit (.int .u8 (X.m.1 : Int)), .lit (.int .u8 (X.m.2 : Int))]] ∧ p = [] ∧ BdX X := by
  obtain ⟨cs, rfl, hsz⟩ := okWide_struct Tryz.underlying41 hv
  obtain ⟨c0, c1, c2, c3, c4, c5, c6, c7, c8, c9, rfl⟩ := tenA (hsz.trans cells_Box)
  obtain ⟨fuel, hf⟩ := ht
  obtain ⟨xs, n, _, hx, hl, hlen, hfl⟩ := DataW.trod_struct Tryz.underlying41 hf
  obtain ⟨y0, y1, y2, y3, y4, rfl⟩ := five (l := xs) (by simpa using hlen)
  have g0 := hfl 0 _ rfl
  have g1 := hfl 1 _ rfl
  have g2 := hfl 2 _ rfl
  have g3 := hfl 3 _ rfl
  have g4 := hfl 4 _ rfl
  simp [Value.cells, cells_Run, cells_Span, cells_Mask] at g0 g1 g2 g3 g4 hx
  obtain ⟨p0, r0, s0, t0, u0, v0⟩ := open_Run g0
  obtain ⟨p1, r1, s1, t1, u1, v1⟩ := open_Run g1
  obtain ⟨p2, r2, s2, t2, u2, v2⟩ := open_Span g2
  obtain ⟨p3, r3, s3, t3, u3, v3⟩ := open_Span g3
  obtain ⟨p4, r4, s4, t4, u4, v4⟩ := open_Mask g4
  subst t0 t1 t2 t3 t4
  subst r0 r1 r2 r3 r4 s0 s1 s2 s3 s4
  obtain ⟨_, _, l0⟩ := wf_u32 u0
  obtain ⟨_, _, l1⟩ := wf_u32 v0
  obtain ⟨_, _, l2⟩ := wf_u32 u1
  obtain ⟨_, _, l3⟩ := wf_u32 v1
  obtain ⟨_, _, l4⟩ := wf_u16 u2
  obtain ⟨_, _, l5⟩ := wf_u16 v2
  obtain ⟨_, _, l6⟩ := wf_u16 u3
  obtain ⟨_, _, l7⟩ := wf_u16 v3
  obtain ⟨_, _, l8⟩ := wf_u8 u4
  obtain ⟨_, _, l9⟩ := wf_u8 v4
  exact ⟨⟨p0, p1, p2, p3, p4⟩, rfl, by simpa using hx.1, by simpa using hx.2, by show p0.1 < _; omega, by show p0.2 < _; omega, by show p1.1 < _; omega, by show p1.2 < _; omega, by show p2.1 < _; omega, by show p2.2 < _; omega, by show p3.1 < _; omega, by show p3.2 < _; omega, by show p4.1 < _; omega, by show p4.2 < _; omega⟩
theorem shut_bx {H : Type} {enc : TypeId × Value → H} {w : World} {base : Nat} {spare : Nat → Bool} {held : Bool} {X : Bx} (o : BdX X) :
    DataW.Trod enc Tryz.prog w base spare held 41 (.agg #[.int .u32 (X.a.1 : Int), .int .u32 (X.a.2 : Int), .int .u32 (X.b.1 : Int), .int .u32 (X.b.2 : Int), .int .u16 (X.c.1 : Int), .int .u16 (X.c.2 : Int), .int .u16 (X.d.1 : Int), .int .u16 (X.d.2 : Int), .int .u8 (X.m.1 : Int), .int .u8 (X.m.2 : Int)]) (.agg [.agg [.lit (.int .u32 (X.a.1 : Int)), .lit (.int .u32 (X.a.2 : Int))], .agg [.lit (.int .u32 (X.b.1 : Int)), .lit (.int .u32 (X.b.2 : Int))], .agg [.lit (.int .u16 (X.c.1 : Int)), .lit (.int .u16 (X.c.2 : Int))], .agg [.lit (.int .u16 (X.d.1 : Int)), .lit (.int .u16 (X.d.2 : Int))], .agg [.lit (.int .u8 (X.m.1 : Int)), .lit (.int .u8 (X.m.2 : Int))]]) [] := by
  obtain ⟨l0, l1, l2, l3, l4, l5, l6, l7, l8, l9⟩ := o
  have m32 : IntKind.u32.max = 4294967295 := rfl
  have m16 : IntKind.u16.max = 65535 := rfl
  have m8 : IntKind.u8.max = 255 := rfl
  have w0 : (Lit.int .u32 (X.a.1 : Int)).wf = true := lit_wf rfl (by rw [m32]; omega)
  have w1 : (Lit.int .u32 (X.a.2 : Int)).wf = true := lit_wf rfl (by rw [m32]; omega)
  have w2 : (Lit.int .u32 (X.b.1 : Int)).wf = true := lit_wf rfl (by rw [m32]; omega)
  have w3 : (Lit.int .u32 (X.b.2 : Int)).wf = true := lit_wf rfl (by rw [m32]; omega)
  have w4 : (Lit.int .u16 (X.c.1 : Int)).wf = true := lit_wf rfl (by rw [m16]; omega)
  have w5 : (Lit.int .u16 (X.c.2 : Int)).wf = true := lit_wf rfl (by rw [m16]; omega)
  have w6 : (Lit.int .u16 (X.d.1 : Int)).wf = true := lit_wf rfl (by rw [m16]; omega)
  have w7 : (Lit.int .u16 (X.d.2 : Int)).wf = true := lit_wf rfl (by rw [m16]; omega)
  have w8 : (Lit.int .u8 (X.m.1 : Int)).wf = true := lit_wf rfl (by rw [m8]; omega)
  have w9 : (Lit.int .u8 (X.m.2 : Int)).wf = true := lit_wf rfl (by rw [m8]; omega)
  have z0 := shut_Run (enc := enc) (w := w) (base := base) (spare := spare) (held := held) w0 w1
  have z1 := shut_Run (enc := enc) (w := w) (base := base) (spare := spare) (held := held) w2 w3
  have z2 := shut_Span (enc := enc) (w := w) (base := base) (spare := spare) (held := held) w4 w5
  have z3 := shut_Span (enc := enc) (w := w) (base := base) (spare := spare) (held := held) w6 w7
  have z4 := shut_Mask (enc := enc) (w := w) (base := base) (spare := spare) (held := held) w8 w9
  have := trod_struct_mk (enc := enc) (w := w) (base := base) (spare := spare) (held := held) (n := 2) (cs := [.int .u32 (X.a.1 : Int), .int .u32 (X.a.2 : Int), .int .u32 (X.b.1 : Int), .int .u32 (X.b.2 : Int), .int .u16 (X.c.1 : Int), .int .u16 (X.c.2 : Int), .int .u16 (X.d.1 : Int), .int .u16 (X.d.2 : Int), .int .u8 (X.m.1 : Int), .int .u8 (X.m.2 : Int)]) (xs := [(.agg [.lit (.int .u32 (X.a.1 : Int)), .lit (.int .u32 (X.a.2 : Int))], []), (.agg [.lit (.int .u32 (X.b.1 : Int)), .lit (.int .u32 (X.b.2 : Int))], []), (.agg [.lit (.int .u16 (X.c.1 : Int)), .lit (.int .u16 (X.c.2 : Int))], []), (.agg [.lit (.int .u16 (X.d.1 : Int)), .lit (.int .u16 (X.d.2 : Int))], []), (.agg [.lit (.int .u8 (X.m.1 : Int)), .lit (.int .u8 (X.m.2 : Int))], [])]) Tryz.underlying41 (by simp [cells_Box])
    (by simp [cells_Run, cells_Span, cells_Mask, z0, z1, z2, z3, z4])
  exact ⟨3, by simpa [Value.cells] using this⟩
end Go.Proofs.YtebljklpkoheaaaGreat
