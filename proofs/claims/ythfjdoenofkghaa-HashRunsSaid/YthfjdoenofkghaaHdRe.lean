/-
  What Of of the document's answer hands back; the statements' own 'same' of two lists of bytes.
-/
import Derived.Test.YthfjdoenofkghaaHdRd
namespace Go.Proofs.Ythfjdoenofkghaa
open Go.RowKit
set_option linter.unusedVariables false
set_option linter.unusedSimpArgs false
attribute [local go_sem ↓] Go.wp_at_zero Go.wp_at_succ

theorem srcW5 {w : World} {v : Value} {a b c d e : Nat} (hs : SrcW w v [a, b, c, d, e]) : ∃ g off cap, v = .slice (some ⟨g, off, none⟩) 5 cap ∧ g < w.heap.size ∧ w.cell? ⟨g, off, none⟩ = some (.int .u32 (a : Int)) ∧ w.cell? ⟨g, off + 1, none⟩ = some (.int .u32 (b : Int)) ∧ w.cell? ⟨g, off + 2, none⟩ = some (.int .u32 (c : Int)) ∧ w.cell? ⟨g, off + 3, none⟩ = some (.int .u32 (d : Int)) ∧ w.cell? ⟨g, off + 4, none⟩ = some (.int .u32 (e : Int)) := by
  obtain ⟨ad, cap, rfl, _, h⟩ := hs
  obtain ⟨g, off, rfl, hc⟩ := h (by simp)
  have x0 := hc 0 (by simp)
  exact ⟨g, off, cap, rfl, World.block_lt_of_cell? _ _ x0, x0, hc 1 (by simp), hc 2 (by simp), hc 3 (by simp), hc 4 (by simp)⟩
end Go.Proofs.Ythfjdoenofkghaa
