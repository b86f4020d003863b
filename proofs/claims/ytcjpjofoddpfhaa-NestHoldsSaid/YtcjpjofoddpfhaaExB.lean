/-
  The document's fewest stems of a set of ports: tiled, by halves over the counts of what lies ahead.
-/
import Derived.Test.YtcjpjofoddpfhaaExU
import Derived.Deep.AppendLies
namespace Go.Proofs.Ytcjpjofoddpfhaa.Xp
open Go.RowKit
set_option linter.unusedVariables false
set_option linter.unusedSimpArgs false

/-- The counts of what lies ahead of each place, in memory. -/
def Ahead (w : World) (v : Value) (p : Nat → Bool) : Prop :=
  ∃ g, v = .slice (some ⟨g, 0, none⟩) 65537 65537 ∧ ∀ i, i ≤ 65536 → w.cell? ⟨g, i, none⟩ = some (.int .i64 ((ah p i : Nat) : Int))
theorem Ahead.on {w w1 : World} {v : Value} {p : Nat → Bool} (h : Ahead w v p) (hb : Below w.heap.size w w1) : Ahead w1 v p := by
  obtain ⟨g, hv, hc⟩ := h
  exact ⟨g, hv, fun i hi => cell_on1 hb (hc i hi)⟩
theorem tl_len (p : Nat → Bool) : ∀ (f a : Nat), (tl p f a).length ≤ 2 ^ f := by
  intro f
  induction f with
  | zero => intro a; unfold tl; split <;> simp
  | succ f ih =>
    intro a
    have hp : 0 < 2 ^ f := Nat.pow_pos (by decide)
    have e : 2 ^ (f + 1) = 2 ^ f + 2 ^ f := by rw [Nat.pow_succ]; omega
    by_cases h1 : full p a (2 ^ (f + 1))
    · rw [tl_full h1]; simp; omega
    · by_cases h2 : bare p a (2 ^ (f + 1))
      · rw [tl_bare h2]; simp
      · rw [tl_halves h1 h2, List.length_append]
        have := ih a
        have := ih (a + 2 ^ f)
        omega
end Go.Proofs.Ytcjpjofoddpfhaa.Xp
