/-
  What the functions of expand are to hand back, each as a proposition of its own (proved of the code elsewhere).
-/
import Derived.Test.YtapaoemcjpfpoaaExE
import Derived.Test.YtapaoemcjpfpoaaExPlC
namespace Go.Proofs.Ytapaoemcjpfpoaa
open Go.RowKit
set_option linter.unusedVariables false

def ChkC : Prop := ∀ (b : Nat) (n : Int) (w : World), b < 65536 →
    Calls Try.prog 12 #[.agg #[.int .u16 b, .int .i64 n]] w fun e w' => e = .returned (.int .i64 (if mayT b n then 0 else 50)) ∧ Below w.heap.size w w'
def HasC : Prop := ∀ (b : Nat) (n : Int) (q : Nat) (w : World), b < 65536 → q < 65536 →
    Calls Try.prog 14 #[.agg #[.int .u16 b, .int .i64 n], .int .u16 q] w fun e w' => e = .returned (.bool (hasT b n q)) ∧ Below w.heap.size w w'
def SpnN : Prop := ∀ (b : Nat) (n : Int) (w : World), b < 65536 → mayT b n = false →
    Calls Try.prog 9 #[.agg #[.int .u16 b, .int .i64 n]] w fun e w' => e = .returned (.tuple #[.agg #[.int .u16 0, .int .u16 0], .int .i64 50]) ∧ Below w.heap.size w w'
def SpnC : Prop := ∀ (b : Nat) (n : Int) (w : World), b < 65536 → mayT b n = true →
    Calls Try.prog 9 #[.agg #[.int .u16 b, .int .i64 n]] w fun e w' => e = .returned (.tuple #[.agg #[.int .u16 (b : Nat), .int .u16 (topT b n : Nat)], .int .i64 0]) ∧ Below w.heap.size w w'
def OfN : Prop := ∀ (lo hi : Nat) (w : World), lo < 65536 → hi < lo →
    Calls Try.prog 18 #[.agg #[.int .u16 lo, .int .u16 hi]] w fun e w' => ∃ v' : Value, e = .returned (.tuple #[v', .int .i64 30]) ∧ RowT w' w.heap.size v' [] ∧ Below w.heap.size w w'
def OfC : Prop := ∀ (lo hi : Nat) (w : World), lo ≤ hi → hi < 65536 →
    Calls Try.prog 18 #[.agg #[.int .u16 lo, .int .u16 hi]] w fun e w' => ∃ v' : Value, e = .returned (.tuple #[v', .int .i64 0]) ∧ RowT w' w.heap.size v' (tl (hasB (lo, hi)) 16 0) ∧ Below w.heap.size w w'
def CntN : Prop := ∀ (lo hi : Nat) (w : World), lo < 65536 → hi < lo →
    Calls Try.prog 17 #[.agg #[.int .u16 lo, .int .u16 hi]] w fun e w' => e = .returned (.tuple #[.int .i64 0, .int .i64 30]) ∧ Below w.heap.size w w'
def CntC : Prop := ∀ (lo hi : Nat) (w : World), lo ≤ hi → hi < 65536 →
    Calls Try.prog 17 #[.agg #[.int .u16 lo, .int .u16 hi]] w fun e w' => e = .returned (.tuple #[.int .i64 (((tl (hasB (lo, hi)) 16 0).length : Nat) : Int), .int .i64 0]) ∧ Below w.heap.size w w'
def BackN : Prop := ∀ (l : List (Nat × Int)) (v : Value) (w : World), SrcT w v l → l.length ≤ 1048576 → BdT l → okT l = false →
    Calls Try.prog 23 #[v] w fun e w' => ∃ v' : Value, e = .returned (.tuple #[v', .int .i64 50]) ∧ Row w' w.heap.size v' [] ∧ Below w.heap.size w w'
def BackC : Prop := ∀ (l : List (Nat × Int)) (v : Value) (w : World), SrcT w v l → l.length ≤ 1048576 → BdT l → okT l = true →
    Calls Try.prog 23 #[v] w fun e w' => ∃ v' : Value, e = .returned (.tuple #[v', .int .i64 0]) ∧ Row w' w.heap.size v' (canonOf (memT l)) ∧ Below w.heap.size w w'
def LstN : Prop := ∀ (l : List (Nat × Int)) (v : Value) (w : World), SrcT w v l → l.length ≤ 1048576 → BdT l → okT l = false →
    Calls Try.prog 27 #[v] w fun e w' => ∃ v' : Value, e = .returned (.tuple #[v', .int .i64 50]) ∧ RowT w' w.heap.size v' [] ∧ Below w.heap.size w w'
def LstC : Prop := ∀ (l : List (Nat × Int)) (v : Value) (w : World), SrcT w v l → l.length ≤ 1048576 → BdT l → okT l = true →
    Calls Try.prog 27 #[v] w fun e w' => ∃ v' : Value, e = .returned (.tuple #[v', .int .i64 0]) ∧ RowT w' w.heap.size v' (tl (memT l) 16 0) ∧ Below w.heap.size w w'
end Go.Proofs.Ytapaoemcjpfpoaa
