/-
  Two headers, two boxes, compared as values.
-/
import Derived.Test.YtebljklpkoheaaaGreatBxK
namespace Go.Proofs.YtebljklpkoheaaaGreat
open Go.RowKit
set_option linter.unusedVariables false
set_option linter.unusedSimpArgs false

theorem hd_eq (a b : Hd) : a = b ↔ ((a.s : Int) = b.s ∧ (a.d : Int) = b.d ∧ (a.p : Int) = b.p ∧ (a.q : Int) = b.q ∧ (a.r : Int) = b.r) := by
  obtain ⟨a1, a2, a3, a4, a5⟩ := a
  obtain ⟨b1, b2, b3, b4, b5⟩ := b
  simp only [Hd.mk.injEq]
  omega
theorem eqH_any (a b : Hd) (w : World) : Sem.run Tryz.prog (binOp .eql 34 (.agg #[.int .u32 (a.s : Int), .int .u32 (a.d : Int), .int .u16 (a.p : Int), .int .u16 (a.q : Int), .int .u8 (a.r : Int)]) (.agg #[.int .u32 (b.s : Int), .int .u32 (b.d : Int), .int .u16 (b.p : Int), .int .u16 (b.q : Int), .int .u8 (b.r : Int)])) w = .ok (.bool (decide (a = b))) w := by
  rw [show decide (a = b) = decide ((a.s : Int) = b.s ∧ (a.d : Int) = b.d ∧ (a.p : Int) = b.p ∧ (a.q : Int) = b.q ∧ (a.r : Int) = b.r) from decide_eq_decide.2 (hd_eq a b)]
  simp [go_sem]
  repeat' (first | rfl | (split <;> rename_i h <;> simp only [h, decide_true, decide_false, Bool.true_and, Bool.false_and]))
theorem bx_eq (a b : Bx) : a = b ↔ ((a.a.1 : Int) = b.a.1 ∧ (a.a.2 : Int) = b.a.2 ∧ (a.b.1 : Int) = b.b.1 ∧ (a.b.2 : Int) = b.b.2 ∧ (a.c.1 : Int) = b.c.1 ∧ (a.c.2 : Int) = b.c.2 ∧ (a.d.1 : Int) = b.d.1 ∧ (a.d.2 : Int) = b.d.2 ∧ (a.m.1 : Int) = b.m.1 ∧ (a.m.2 : Int) = b.m.2) := by
  obtain ⟨⟨a1, a2⟩, ⟨a3, a4⟩, ⟨a5, a6⟩, ⟨a7, a8⟩, ⟨a9, a0⟩⟩ := a
  obtain ⟨⟨b1, b2⟩, ⟨b3, b4⟩, ⟨b5, b6⟩, ⟨b7, b8⟩, ⟨b9, b0⟩⟩ := b
  simp only [Bx.mk.injEq, Prod.mk.injEq]
  omega
set_option maxHeartbeats 2000000 in
theorem eqX_any (a b : Bx) (w : World) : Sem.run Tryz.prog (binOp .eql 41 (.agg #[.int .u32 (a.a.1 : Int), .int .u32 (a.a.2 : Int), .int .u32 (a.b.1 : Int), .int .u32 (a.b.2 : Int), .int .u16 (a.c.1 : Int), .int .u16 (a.c.2 : Int), .int .u16 (a.d.1 : Int), .int .u16 (a.d.2 : Int), .int .u8 (a.m.1 : Int), .int .u8 (a.m.2 : Int)]) (.agg #[.int .u32 (b.a.1 : Int), .int .u32 (b.a.2 : Int), .int .u32 (b.b.1 : Int), .int .u32 (b.b.2 : Int), .int .u16 (b.c.1 : Int), .int .u16 (b.c.2 : Int), .int .u16 (b.d.1 : Int), .int .u16 (b.d.2 : Int), .int .u8 (b.m.1 : Int), .int .u8 (b.m.2 : Int)])) w = .ok (.bool (decide (a = b))) w := by
  rw [show decide (a = b) = decide _ from decide_eq_decide.2 (bx_eq a b)]
  simp [go_sem]
  repeat' (first | rfl | (split <;> rename_i h <;> simp only [h, decide_true, decide_false, Bool.true_and, Bool.false_and]))
end Go.Proofs.YtebljklpkoheaaaGreat
