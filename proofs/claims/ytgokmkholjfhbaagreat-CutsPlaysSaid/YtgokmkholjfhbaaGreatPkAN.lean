/-
  PkAN: BxK BxEq NsPl, one behind the other (tools/pack.py).
-/
import Derived.Test.YtgokmkholjfhbaaGreatPkAF
import Derived.Test.YtgokmkholjfhbaaGreatPkAE
import Derived.Below
set_option linter.unusedVariables false
set_option linter.unusedSimpArgs false
namespace Go.Proofs.YtgokmkholjfhbaaGreat.Xb
open Go.RowKit
structure Hd where
 s : Nat
 d : Nat
 p : Nat
 q : Nat
 r : Nat
 deriving DecidableEq
def OkH (h : Hd) : Prop := h.s < 4294967296 ∧ h.d < 4294967296 ∧ h.p < 65536 ∧ h.q < 65536 ∧ h.r < 256
def hasH (X : Bx) (h : Hd) : Bool := hasX X h.s h.d h.p h.q h.r
def CheckC : Prop := ∀ (X : Bx) (w : World), BdX X → Calls Tryz.prog 49 #[.agg #[.int .u32 X.a.1, .int .u32 X.a.2, .int .u32 X.b.1, .int .u32 X.b.2, .int .u16 X.c.1, .int .u16 X.c.2, .int .u16 X.d.1, .int .u16 X.d.2, .int .u8 X.m.1, .int .u8 X.m.2]] w fun e w' => e = .returned (.int .i64 (chkX X)) ∧ Below w.heap.size w w'
def HasC : Prop := ∀ (X : Bx) (h : Hd) (w : World), BdX X → OkH h → Calls Tryz.prog 36 #[.agg #[.int .u32 X.a.1, .int .u32 X.a.2, .int .u32 X.b.1, .int .u32 X.b.2, .int .u16 X.c.1, .int .u16 X.c.2, .int .u16 X.d.1, .int .u16 X.d.2, .int .u8 X.m.1, .int .u8 X.m.2], .agg #[.int .u32 h.s, .int .u32 h.d, .int .u16 h.p, .int .u16 h.q, .int .u8 h.r]] w fun e w' => e = .returned (.bool (hasH X h)) ∧ Below w.heap.size w w'
theorem hd_eq (a b : Hd) : a = b ↔ ((a.s : Int) = b.s ∧ (a.d : Int) = b.d ∧ (a.p : Int) = b.p ∧ (a.q : Int) = b.q ∧ (a.r : Int) = b.r) := by
 obtain ⟨a1, a2, a3, a4, a5⟩ := a
 obtain ⟨b1, b2, b3, b4, b5⟩ := b
 simp only [Hd.mk.injEq]
 omega
theorem eqH_any (a b : Hd) (w : World) : Sem.run Tryz.prog (binOp .eql 28 (.agg #[.int .u32 a.s, .int .u32 a.d, .int .u16 a.p, .int .u16 a.q, .int .u8 a.r]) (.agg #[.int .u32 b.s, .int .u32 b.d, .int .u16 b.p, .int .u16 b.q, .int .u8 b.r])) w = .ok (.bool (decide (a = b))) w := by
 rw [show decide (a = b) = decide ((a.s : Int) = b.s ∧ (a.d : Int) = b.d ∧ (a.p : Int) = b.p ∧ (a.q : Int) = b.q ∧ (a.r : Int) = b.r) from decide_eq_decide.2 (hd_eq a b)]
 simp [go_sem]
 repeat' (first | rfl | (split <;> rename_i h <;> simp only [h, decide_true, decide_false, Bool.true_and, Bool.false_and]))
theorem bx_eq (a b : Bx) : a = b ↔ ((a.a.1 : Int) = b.a.1 ∧ (a.a.2 : Int) = b.a.2 ∧ (a.b.1 : Int) = b.b.1 ∧ (a.b.2 : Int) = b.b.2 ∧ (a.c.1 : Int) = b.c.1 ∧ (a.c.2 : Int) = b.c.2 ∧ (a.d.1 : Int) = b.d.1 ∧ (a.d.2 : Int) = b.d.2 ∧ (a.m.1 : Int) = b.m.1 ∧ (a.m.2 : Int) = b.m.2) := by
 obtain ⟨⟨a1, a2⟩, ⟨a3, a4⟩, ⟨a5, a6⟩, ⟨a7, a8⟩, ⟨a9, a0⟩⟩ := a
 obtain ⟨⟨b1, b2⟩, ⟨b3, b4⟩, ⟨b5, b6⟩, ⟨b7, b8⟩, ⟨b9, b0⟩⟩ := b
 simp only [Bx.mk.injEq, Prod.mk.injEq]
 omega
set_option maxHeartbeats 2000000 in
theorem eqX_any (a b : Bx) (w : World) : Sem.run Tryz.prog (binOp .eql 74 (.agg #[.int .u32 a.a.1, .int .u32 a.a.2, .int .u32 a.b.1, .int .u32 a.b.2, .int .u16 a.c.1, .int .u16 a.c.2, .int .u16 a.d.1, .int .u16 a.d.2, .int .u8 a.m.1, .int .u8 a.m.2]) (.agg #[.int .u32 b.a.1, .int .u32 b.a.2, .int .u32 b.b.1, .int .u32 b.b.2, .int .u16 b.c.1, .int .u16 b.c.2, .int .u16 b.d.1, .int .u16 b.d.2, .int .u8 b.m.1, .int .u8 b.m.2])) w = .ok (.bool (decide (a = b))) w := by
 rw [show decide (a = b) = decide _ from decide_eq_decide.2 (bx_eq a b)]
 simp [go_sem]
 repeat' (first | rfl | (split <;> rename_i h <;> simp only [h, decide_true, decide_false, Bool.true_and, Bool.false_and]))
end Go.Proofs.YtgokmkholjfhbaaGreat.Xb

namespace Go.Proofs.YtgokmkholjfhbaaGreat
def mt (a b : Nat × Nat) : Bool := decide (a.1 ≤ b.2) && decide (b.1 ≤ a.2)
end Go.Proofs.YtgokmkholjfhbaaGreat
