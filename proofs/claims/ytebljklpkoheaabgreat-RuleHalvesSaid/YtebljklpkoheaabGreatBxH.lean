/-
  Has of package box.
-/
import Derived.Test.YtebljklpkoheaabGreatBxB
import Derived.Test.YtebljklpkoheaabGreatBxEq
namespace Go.Proofs.YtebljklpkoheaabGreat
open Go.RowKit
set_option linter.unusedVariables false
set_option linter.unusedSimpArgs false

end Go.Proofs.YtebljklpkoheaabGreat
