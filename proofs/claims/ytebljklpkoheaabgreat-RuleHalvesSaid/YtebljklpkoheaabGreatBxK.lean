/-
  What the functions of package box answer, as propositions (proved of the code elsewhere); the laws are drawn from these.
-/
import Derived.Test.YtebljklpkoheaabGreatBxU
namespace Go.Proofs.YtebljklpkoheaabGreat
open Go.RowKit
set_option linter.unusedVariables false
set_option linter.unusedSimpArgs false

/-- A header: Src, Dst, Sport, Dport, Proto. -/
structure Hd where
  s : Nat
  d : Nat
  p : Nat
  q : Nat
  r : Nat
  deriving DecidableEq
def OkH (h : Hd) : Prop := h.s < 4294967296 ∧ h.d < 4294967296 ∧ h.p < 65536 ∧ h.q < 65536 ∧ h.r < 256
def hasH (X : Bx) (h : Hd) : Bool := hasX X h.s h.d h.p h.q h.r
def wholeX : Bx := ⟨(0, 4294967295), (0, 4294967295), (0, 65535), (0, 65535), (0, 0)⟩
def zeroX : Bx := ⟨(0, 0), (0, 0), (0, 0), (0, 0), (0, 0)⟩
def leastX (X : Bx) : Hd := ⟨X.a.1, X.b.1, X.c.1, X.d.1, X.m.1⟩
def firstX (X : Bx) : Hd := if okX X then leastX X else ⟨0, 0, 0, 0, 0⟩
def meetX (X Y : Bx) : Bx := if bothX X Y then meetB X Y else zeroX
theorem wholeX_bd : BdX wholeX := by unfold BdX wholeX; simp
theorem zeroX_bd : BdX zeroX := by unfold BdX zeroX; simp
theorem meetX_bd {X Y : Bx} (bx : BdX X) (bY : BdX Y) : BdX (meetX X Y) := by
  unfold meetX
  split
  · exact meetB_bd bx bY
  · exact zeroX_bd
theorem firstX_ok {X : Bx} (bx : BdX X) : OkH (firstX X) := by
  obtain ⟨x1, x2, x3, x4, x5, x6, x7, x8, x9, x0⟩ := bx
  unfold firstX leastX OkH
  split
  · exact ⟨x1, x3, x5, x7, x9⟩
  · simp
def CheckC : Prop := ∀ (X : Bx) (w : World), BdX X → Calls Tryz.prog 35 #[.agg #[.int .u32 (X.a.1 : Int), .int .u32 (X.a.2 : Int), .int .u32 (X.b.1 : Int), .int .u32 (X.b.2 : Int), .int .u16 (X.c.1 : Int), .int .u16 (X.c.2 : Int), .int .u16 (X.d.1 : Int), .int .u16 (X.d.2 : Int), .int .u8 (X.m.1 : Int), .int .u8 (X.m.2 : Int)]] w fun e w' => e = .returned (.int .i64 (chkX X)) ∧ Below w.heap.size w w'
def FirstC : Prop := ∀ (X : Bx) (w : World), BdX X → Calls Tryz.prog 22 #[.agg #[.int .u32 (X.a.1 : Int), .int .u32 (X.a.2 : Int), .int .u32 (X.b.1 : Int), .int .u32 (X.b.2 : Int), .int .u16 (X.c.1 : Int), .int .u16 (X.c.2 : Int), .int .u16 (X.d.1 : Int), .int .u16 (X.d.2 : Int), .int .u8 (X.m.1 : Int), .int .u8 (X.m.2 : Int)]] w fun e w' => e = .returned (.tuple #[.agg #[.int .u32 ((firstX X).s : Int), .int .u32 ((firstX X).d : Int), .int .u16 ((firstX X).p : Int), .int .u16 ((firstX X).q : Int), .int .u8 ((firstX X).r : Int)], .int .i64 (chkX X)]) ∧ Below w.heap.size w w'
def CountC : Prop := ∀ (X : Bx) (w : World), BdX X → Calls Tryz.prog 20 #[.agg #[.int .u32 (X.a.1 : Int), .int .u32 (X.a.2 : Int), .int .u32 (X.b.1 : Int), .int .u32 (X.b.2 : Int), .int .u16 (X.c.1 : Int), .int .u16 (X.c.2 : Int), .int .u16 (X.d.1 : Int), .int .u16 (X.d.2 : Int), .int .u8 (X.m.1 : Int), .int .u8 (X.m.2 : Int)]] w fun e w' => e = .returned (.tuple #[.int .u64 ((hiW (cntX X) : Nat) : Int), .int .u64 ((loW (cntX X) : Nat) : Int)]) ∧ Below w.heap.size w w'
def MeetC : Prop := ∀ (X Y : Bx) (w : World), BdX X → BdX Y → Calls Tryz.prog 21 #[.agg #[.int .u32 (X.a.1 : Int), .int .u32 (X.a.2 : Int), .int .u32 (X.b.1 : Int), .int .u32 (X.b.2 : Int), .int .u16 (X.c.1 : Int), .int .u16 (X.c.2 : Int), .int .u16 (X.d.1 : Int), .int .u16 (X.d.2 : Int), .int .u8 (X.m.1 : Int), .int .u8 (X.m.2 : Int)], .agg #[.int .u32 (Y.a.1 : Int), .int .u32 (Y.a.2 : Int), .int .u32 (Y.b.1 : Int), .int .u32 (Y.b.2 : Int), .int .u16 (Y.c.1 : Int), .int .u16 (Y.c.2 : Int), .int .u16 (Y.d.1 : Int), .int .u16 (Y.d.2 : Int), .int .u8 (Y.m.1 : Int), .int .u8 (Y.m.2 : Int)]] w fun e w' => e = .returned (.tuple #[.agg #[.int .u32 ((meetX X Y).a.1 : Int), .int .u32 ((meetX X Y).a.2 : Int), .int .u32 ((meetX X Y).b.1 : Int), .int .u32 ((meetX X Y).b.2 : Int), .int .u16 ((meetX X Y).c.1 : Int), .int .u16 ((meetX X Y).c.2 : Int), .int .u16 ((meetX X Y).d.1 : Int), .int .u16 ((meetX X Y).d.2 : Int), .int .u8 ((meetX X Y).m.1 : Int), .int .u8 ((meetX X Y).m.2 : Int)], .bool (bothX X Y)]) ∧ Below w.heap.size w w'
end Go.Proofs.YtebljklpkoheaabGreat
