/-
  What Next of the document's answer hands back.
-/
import Derived.Test.YthfjdoenofkghaaHdRc
namespace Go.Proofs.Ythfjdoenofkghaa
open Go.RowKit
set_option linter.unusedVariables false
set_option linter.unusedSimpArgs false
attribute [local go_sem ↓] Go.wp_at_zero Go.wp_at_succ

/-- The cells of a header that may be written. -/
def FreeH (w : World) (B : Nat) : Prop := (∀ j, j < 5 → ∃ v, w.cell? ⟨B, j, none⟩ = some v) ∧ ∀ j, w.frozen? ⟨B, j, none⟩ = false
theorem FreeH.on {w w1 : World} {B C : Nat} (h : FreeH w B) (hb : Below C w w1) (hC : B < C) : FreeH w1 B :=
  ⟨fun j hj => by rw [hb.cell (show (⟨B, j, none⟩ : Addr).block < C from hC)]; exact h.1 j hj, fun j => by rw [hb.frozen (show (⟨B, j, none⟩ : Addr).block < C from hC)]; exact h.2 j⟩
theorem freeH_new {w : World} {a0 a1 a2 a3 a4 : Value} {t : TypeId} : FreeH (w.alloc (.cells #[a0, a1, a2, a3, a4] t)) w.heap.size :=
  ⟨fun j hj => by
    match j, hj with
    | 0, _ => exact ⟨a0, by simp [go_sem]⟩
    | 1, _ => exact ⟨a1, by simp [go_sem]⟩
    | 2, _ => exact ⟨a2, by simp [go_sem]⟩
    | 3, _ => exact ⟨a3, by simp [go_sem]⟩
    | 4, _ => exact ⟨a4, by simp [go_sem]⟩, fun j => by simp [go_sem]⟩
end Go.Proofs.Ythfjdoenofkghaa
