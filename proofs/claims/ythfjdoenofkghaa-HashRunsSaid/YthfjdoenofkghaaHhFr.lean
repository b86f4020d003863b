/-
  Headers and integers among the arguments: opened into their numbers. Written by tools/mkHhFr.py.
-/
import Derived.Test.YthfjdoenofkghaaRows
import Derived.ProofKit
import Derived.OpenShut
import Derived.Lib.SmallJoins
import Derived.ChangeSlices
import Derived.Deep.Slices
import Derived.ChangeMaps5
import Derived.Carry
import Derived.Test.YthfjdoenofkghaaHhN
namespace Go.Proofs.Ythfjdoenofkghaa
open Go.ChangeShapes Go.WideShapes Go.ChangeAt Go.RowKit Go.Joins
set_option linter.unusedVariables false
set_option linter.unusedSimpArgs false
set_option maxRecDepth 20000

def I64 (a : Int) : Prop := -9223372036854775808 ≤ a ∧ a ≤ 9223372036854775807
theorem own : ownKnob Try.prog.godebug = none := by kernel_rfl
theorem laidOut : laidOutB Try.prog = true := by kernel_rfl
theorem cells_int : Try.prog.cellsOf 3 = 1 := by kernel_rfl
theorem cells_u32 : Try.prog.cellsOf 33 = 1 := by kernel_rfl
theorem cells_u16 : Try.prog.cellsOf 34 = 1 := by kernel_rfl
theorem cells_u8 : Try.prog.cellsOf 5 = 1 := by kernel_rfl
theorem cells_Header : Try.prog.cellsOf 36 = 5 := by kernel_rfl
theorem wf_sgn {a : Int} (h : (Lit.int .i64 a).wf = true) : I64 a := by
  have h1 : IntKind.i64.min ≤ a ∧ a ≤ IntKind.i64.max := by simpa [Lit.wf] using h
  have e1 : IntKind.i64.min = -9223372036854775808 := rfl
  have e2 : IntKind.i64.max = 9223372036854775807 := rfl
  unfold I64
  omega
theorem wf_u32 {a : Int} (h : (Lit.int .u32 a).wf = true) : ∃ n : Nat, a = (n : Int) ∧ n < 4294967296 := by
  have h1 : IntKind.u32.min ≤ a ∧ a ≤ IntKind.u32.max := by simpa [Lit.wf] using h
  have e1 : IntKind.u32.min = 0 := rfl
  have e2 : IntKind.u32.max = 4294967295 := rfl
  exact ⟨a.toNat, by omega, by omega⟩
theorem wf_u16 {a : Int} (h : (Lit.int .u16 a).wf = true) : ∃ n : Nat, a = (n : Int) ∧ n < 65536 := by
  have h1 : IntKind.u16.min ≤ a ∧ a ≤ IntKind.u16.max := by simpa [Lit.wf] using h
  have e1 : IntKind.u16.min = 0 := rfl
  have e2 : IntKind.u16.max = 65535 := rfl
  exact ⟨a.toNat, by omega, by omega⟩
theorem wf_u8 {a : Int} (h : (Lit.int .u8 a).wf = true) : ∃ n : Nat, a = (n : Int) ∧ n < 256 := by
  have h1 : IntKind.u8.min ≤ a ∧ a ≤ IntKind.u8.max := by simpa [Lit.wf] using h
  have e1 : IntKind.u8.min = 0 := rfl
  have e2 : IntKind.u8.max = 255 := rfl
  exact ⟨a.toNat, by omega, by omega⟩
section
variable {H : Type} {enc : TypeId × Value → H} {w : World} {base : Nat} {spare : Nat → Bool} {held : Bool}
theorem list5 {A : Type} {l : List A} (h : l.length = 5) : ∃ a b c d e, l = [a, b, c, d, e] := by
  match l, h with
  | [a, b, c, d, e], _ => exact ⟨a, b, c, d, e, rfl⟩
theorem hd_of_cells {fuel : Nat} {cs : List Value} {y : DataW H × List MemPlace} (hf : DataW.trod enc Try.prog w base spare held fuel 36 cs = some y) : ∃ h : Hd, cs = [.int .u32 (h.s : Int), .int .u32 (h.d : Int), .int .u16 (h.p : Int), .int .u16 (h.q : Int), .int .u8 (h.r : Int)] ∧ OkH h := by
  obtain ⟨xs, n, _, hx, hl, hlen, hfl⟩ := DataW.trod_struct Try.underlying36 hf
  obtain ⟨c0, c1, c2, c3, c4, rfl⟩ := list5 (hl.trans cells_Header)
  obtain ⟨y0, y1, y2, y3, y4, rfl⟩ := list5 (l := xs) (by simpa using hlen)
  have g0 := hfl 0 _ rfl
  have g1 := hfl 1 _ rfl
  have g2 := hfl 2 _ rfl
  have g3 := hfl 3 _ rfl
  have g4 := hfl 4 _ rfl
  simp [cells_u32, cells_u16, cells_u8] at g0 g1 g2 g3 g4
  obtain ⟨p0, r0, t0, u0⟩ := DataW.trod_int Try.underlying33 g0
  obtain ⟨p1, r1, t1, u1⟩ := DataW.trod_int Try.underlying33 g1
  obtain ⟨p2, r2, t2, u2⟩ := DataW.trod_int Try.underlying34 g2
  obtain ⟨p3, r3, t3, u3⟩ := DataW.trod_int Try.underlying34 g3
  obtain ⟨p4, r4, t4, u4⟩ := DataW.trod_int Try.underlying5 g4
  simp at r0 r1 r2 r3 r4
  subst r0 r1 r2 r3 r4
  obtain ⟨k0, rfl, l0⟩ := wf_u32 u0
  obtain ⟨k1, rfl, l1⟩ := wf_u32 u1
  obtain ⟨k2, rfl, l2⟩ := wf_u16 u2
  obtain ⟨k3, rfl, l3⟩ := wf_u16 u3
  obtain ⟨k4, rfl, l4⟩ := wf_u8 u4
  exact ⟨⟨k0, k1, k2, k3, k4⟩, rfl, l0, l1, l2, l3, l4⟩
theorem open_hd {r : Reach} {b0 : Nat} {v : Value} {d : DataW H} {p : List MemPlace}
    (hv : Value.okWide Try.prog w r b0 36 v) (ht : DataW.Trod enc Try.prog w base spare held 36 v d p) : ∃ h : Hd, v = .agg #[.int .u32 (h.s : Int), .int .u32 (h.d : Int), .int .u16 (h.p : Int), .int .u16 (h.q : Int), .int .u8 (h.r : Int)] ∧ OkH h := by
  obtain ⟨cs, rfl, hsz⟩ := okWide_struct Try.underlying36 hv
  obtain ⟨fuel, hf⟩ := ht
  obtain ⟨h, e, b⟩ := hd_of_cells (by simpa [Value.cells] using hf)
  refine ⟨h, ?_, b⟩
  obtain ⟨l⟩ := cs
  simp at e
  rw [e]
end
end Go.Proofs.Ythfjdoenofkghaa
