/-
  What Compare, Differ, Next and Of of the document's answer hand back.
-/
import Derived.Test.YtpgadbiohmofeabHdRb
import Derived.Test.YtpgadbiohmofeabHdPlB
import Derived.Test.YtpgadbiohmofeabHdLw
namespace Go.Proofs.Ytpgadbiohmofeab
open Go.RowKit
set_option linter.unusedVariables false
set_option linter.unusedSimpArgs false
attribute [local go_sem ↓] Go.wp_at_zero Go.wp_at_succ

end Go.Proofs.Ytpgadbiohmofeab
