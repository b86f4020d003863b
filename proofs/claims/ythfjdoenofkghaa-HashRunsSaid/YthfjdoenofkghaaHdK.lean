/-
  What the functions of header are to hand back, each as a proposition of its own (proved of the code elsewhere).
-/
import Derived.Test.YthfjdoenofkghaaHdRe
namespace Go.Proofs.Ythfjdoenofkghaa
open Go.RowKit
set_option linter.unusedVariables false

def CmpC : Prop := ∀ (a b : Hd) (w : World), OkH a → OkH b →
    Calls Try.prog 35 #[.agg #[.int .u32 (a.s : Int), .int .u32 (a.d : Int), .int .u16 (a.p : Int), .int .u16 (a.q : Int), .int .u8 (a.r : Int)], .agg #[.int .u32 (b.s : Int), .int .u32 (b.d : Int), .int .u16 (b.p : Int), .int .u16 (b.q : Int), .int .u8 (b.r : Int)]] w fun e w' => e = .returned (.int .i64 (cmpH a b)) ∧ Below w.heap.size w w'
end Go.Proofs.Ythfjdoenofkghaa
