/-
  Meet, Within, Compare of package span and of the document's answer.
-/
import Derived.Test.YtcjpjofoddpfhaaSpA
import Derived.Sort.Grow
namespace Go.Proofs.Ytcjpjofoddpfhaa.Xp
open Go.RowKit
set_option linter.unusedVariables false
set_option linter.unusedSimpArgs false

theorem bel_grow (w : World) (os : Array Obj) : Below w.heap.size w (Sort.grow w os) := by
  refine ⟨rfl, rfl, rfl, ?_, fun k hk => ?_⟩
  · simp [Sort.grow]
  · simp [Sort.grow, Array.getElem?_append, hk]
def cmpI (x y : Nat × Nat) : Int := if x = y then 0 else if x.1 < y.1 ∨ (x.1 = y.1 ∧ x.2 < y.2) then -1 else 1

def wiB (a b c d : Nat) : Bool := decide (a ≤ b ∧ c ≤ a ∧ b ≤ d)
end Go.Proofs.Ytcjpjofoddpfhaa.Xp
