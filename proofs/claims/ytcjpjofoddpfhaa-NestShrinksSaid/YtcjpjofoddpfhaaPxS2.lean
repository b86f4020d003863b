/-
  What each function of the document's answer hands back: Has, Within, Halves, Compare.
-/
import Derived.Test.YtcjpjofoddpfhaaPxR2
import Derived.Test.YtcjpjofoddpfhaaPxPlB
namespace Go.Proofs.Ytcjpjofoddpfhaa.Pf
open Go.RowKit
set_option linter.unusedVariables false
set_option linter.unusedSimpArgs false
attribute [local go_sem ↓] Go.wp_at_zero Go.wp_at_succ

theorem wrap_i64_small (x : Int) (h : -9223372036854775808 ≤ x) (h' : x ≤ 9223372036854775807) : IntKind.i64.wrap x = x := by
  simp [IntKind.wrap, IntKind.bits, IntKind.signed]; omega
end Go.Proofs.Ytcjpjofoddpfhaa.Pf
