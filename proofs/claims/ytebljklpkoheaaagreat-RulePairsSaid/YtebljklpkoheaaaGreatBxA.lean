/-
  Boxes: what Check of the document's answer hands back.
-/
import Derived.Test.YtebljklpkoheaaaGreatMkB
import Derived.Test.YtebljklpkoheaaaGreatBxPlD
namespace Go.Proofs.YtebljklpkoheaaaGreat
open Go.RowKit
set_option linter.unusedVariables false
set_option linter.unusedSimpArgs false

def chkX (X : Bx) : Int := if okI X.a && okI X.b then (if okI X.c && okI X.d then (if okM X.m.1 X.m.2 then 0 else 40) else 30) else 70
theorem chkX_ok {X : Bx} : chkX X = 0 ↔ okX X = true := by
  unfold chkX okX
  cases okI X.a <;> cases okI X.b <;> cases okI X.c <;> cases okI X.d <;> cases okM X.m.1 X.m.2 <;> simp
theorem gt_yes {s : Nat × Nat} (h : okI s = false) : decide (s.2 < s.1) = true := by
  have := of_decide_eq_false h
  exact decide_eq_true (by omega)
theorem gt_no {s : Nat × Nat} (h : okI s = true) : decide (s.2 < s.1) = false := by
  have := of_decide_eq_true h
  exact decide_eq_false (by omega)
end Go.Proofs.YtebljklpkoheaaaGreat
