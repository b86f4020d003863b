/-
  The document's At, Place; a point as a number.
-/
import Derived.Test.YtlfdlifmcabfjabCvD
namespace Go.Proofs.Ytlfdlifmcabfjab
open Go.RowKit
set_option linter.unusedVariables false
set_option linter.unusedSimpArgs false
set_option maxRecDepth 20000

end Go.Proofs.Ytlfdlifmcabfjab
