/-
  What the greater functions of the document's answer hand back: Turn, Compare, Next, Differ, Of.
-/
import Derived.Test.YthfjdoenofkghaaHdR
namespace Go.Proofs.Ythfjdoenofkghaa
open Go.RowKit
set_option linter.unusedVariables false
set_option linter.unusedSimpArgs false
attribute [local go_sem ↓] Go.wp_at_zero Go.wp_at_succ

theorem flip_go : ∀ b, b < 256 → ∀ k, k < 8 → (b / 2 ^ k % 2 = 1 → flipB b k = b - 2 ^ k ∧ 2 ^ k ≤ b) ∧ (b / 2 ^ k % 2 = 0 → flipB b k = b + 2 ^ k ∧ b + 2 ^ k < 256) := by decide +kernel
end Go.Proofs.Ythfjdoenofkghaa
