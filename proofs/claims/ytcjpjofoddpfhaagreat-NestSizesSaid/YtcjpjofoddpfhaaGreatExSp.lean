/-
  The document's answer: a set of ports as spans.
-/
import Derived.Test.YtcjpjofoddpfhaaGreatExPo
namespace Go.Proofs.YtcjpjofoddpfhaaGreat.Xp
open Go.RowKit
set_option linter.unusedVariables false
set_option linter.unusedSimpArgs false

theorem spansU_no {p : Nat → Bool} {k : Nat} (h : p k = false) : spansU p (k + 1) = spansU p k := by
  rw [spansU, if_neg (by simp [h])]
theorem spansU_new {p : Nat → Bool} {k : Nat} (h : p k = true) (h0 : ¬ (0 < k ∧ p (k - 1) = true)) : spansU p (k + 1) = spansU p k ++ [(k, k)] := by
  rw [spansU, if_pos h, if_neg h0]
theorem spansU_on {p : Nat → Bool} {k : Nat} (h : p k = true) (h0 : 0 < k ∧ p (k - 1) = true) (hk : k ≤ 65536) : ∃ f t, spansU p k = f ++ [t] ∧ spansU p (k + 1) = f ++ [(t.1, k)] := by
  obtain ⟨f, t, e, _⟩ := (spansU_is p k hk).2.2.1 (k - 1) (by omega) h0.2
  refine ⟨f, t, e, ?_⟩
  rw [spansU, if_pos h, if_pos h0]
  have e' : (spansU p k).getLast? = some t := by rw [e]; simp
  rw [e', e]
  simp
theorem spansU_len (p : Nat → Bool) (k : Nat) (hk : k ≤ 65536) : (spansU p k).length ≤ 65536 := by
  have h1 := length_le_total (spansU_is p k hk).1
  rw [total_spansU p k hk] at h1
  have := cnt_le p k
  omega
end Go.Proofs.YtcjpjofoddpfhaaGreat.Xp
