/-
  What the functions of header hand back: all of it.
-/
import Derived.Test.YtpgadbiohmofeabHdAw
import Derived.Test.YtpgadbiohmofeabHdPe
import Derived.Test.YtpgadbiohmofeabHdPg
import Derived.Test.YtpgadbiohmofeabHdPo
import Derived.Test.YtpgadbiohmofeabHdPx
import Derived.Test.YtpgadbiohmofeabHdPy
namespace Go.Proofs.Ytpgadbiohmofeab
open Go.RowKit
theorem awakeT (w : World) : Calls Try.prog 8 #[] w fun e w' => e = .returned (.bool true) ∧ Below w.heap.size w w' := awakeC packC unpC nxtC ofC trnC difC cmpC w
end Go.Proofs.Ytpgadbiohmofeab
