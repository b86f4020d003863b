/-
  What the functions of header hand back: all of it.
-/
import Derived.Test.YtpgadbiohmofeaaHdAw
import Derived.Test.YtpgadbiohmofeaaHdPe
import Derived.Test.YtpgadbiohmofeaaHdPg
import Derived.Test.YtpgadbiohmofeaaHdPo
import Derived.Test.YtpgadbiohmofeaaHdPx
import Derived.Test.YtpgadbiohmofeaaHdPy
namespace Go.Proofs.Ytpgadbiohmofeaa
open Go.RowKit
theorem awakeT (w : World) : Calls Try.prog 9 #[] w fun e w' => e = .returned (.bool true) ∧ Below w.heap.size w w' := awakeC packC unpC nxtC ofC trnC difC cmpC w
end Go.Proofs.Ytpgadbiohmofeaa
