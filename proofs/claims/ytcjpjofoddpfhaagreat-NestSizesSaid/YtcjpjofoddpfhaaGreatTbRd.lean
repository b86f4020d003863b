/-
  mayBe, Match, All of package rule (as in RuD).
-/
import Derived.Test.YtcjpjofoddpfhaaGreatTbRc
import Derived.Test.YtcjpjofoddpfhaaGreatPxB
namespace Go.Proofs.YtcjpjofoddpfhaaGreat
open Go.RowKit
set_option linter.unusedVariables false
set_option linter.unusedSimpArgs false

theorem bel_step {w W V w1 : World} (h : Below w.heap.size w W) (hV : Below W.heap.size W V) (hb : Below V.heap.size V w1) : Below w.heap.size w w1 := h.trans ((hV.trans (hb.mono hV.size)).mono h.size)
theorem bel_a0 (W : World) : Below W.heap.size W W := Below.refl _ _
theorem bel_a1 (W : World) (o : Obj) : Below W.heap.size W (W.alloc o) := (Below.refl _ _).alloc (Nat.le_refl _) _
theorem bel_a2 (W : World) (o p : Obj) : Below W.heap.size W ((W.alloc o).alloc p) := (bel_a1 W o).alloc (bel_a1 W o).size _
theorem bel_a3 (W : World) (o p q : Obj) : Below W.heap.size W (((W.alloc o).alloc p).alloc q) := (bel_a2 W o p).alloc (bel_a2 W o p).size _
theorem bel_a4 (W : World) (o p q r : Obj) : Below W.heap.size W ((((W.alloc o).alloc p).alloc q).alloc r) := (bel_a3 W o p q).alloc (bel_a3 W o p q).size _

end Go.Proofs.YtcjpjofoddpfhaaGreat
