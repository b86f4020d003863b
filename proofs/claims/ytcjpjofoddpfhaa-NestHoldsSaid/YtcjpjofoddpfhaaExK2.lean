/-
  What the functions of expand are to hand back, each as a proposition of its own (proved of the code elsewhere).
-/
import Derived.Test.YtcjpjofoddpfhaaExB
import Derived.Test.YtcjpjofoddpfhaaSpSr
import Derived.Test.YtcjpjofoddpfhaaExPlC
namespace Go.Proofs.Ytcjpjofoddpfhaa.Xp
open Go.RowKit
set_option linter.unusedVariables false

def CntN : Prop := ∀ (lo hi : Nat) (w : World), lo < 65536 → hi < lo →
    Calls Try.prog 28 #[.agg #[.int .u16 lo, .int .u16 hi]] w fun e w' => e = .returned (.tuple #[.int .i64 0, .int .i64 30]) ∧ Below w.heap.size w w'
def CntC : Prop := ∀ (lo hi : Nat) (w : World), lo ≤ hi → hi < 65536 →
    Calls Try.prog 28 #[.agg #[.int .u16 lo, .int .u16 hi]] w fun e w' => e = .returned (.tuple #[.int .i64 (((tl (hasB (lo, hi)) 16 0).length : Nat) : Int), .int .i64 0]) ∧ Below w.heap.size w w'
end Go.Proofs.Ytcjpjofoddpfhaa.Xp
