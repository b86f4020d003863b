/-
  How many stems a span has.
-/
import Derived.Test.YtcjpjofoddpfhaaExPlM
import Derived.Test.YtcjpjofoddpfhaaExPlC
namespace Go.Proofs.Ytcjpjofoddpfhaa.Xp
open Go.RowKit
set_option linter.unusedVariables false

theorem inS_is (lo hi : Nat) : inS lo hi = hasB (lo, hi) := by
  funext i
  rw [Bool.eq_iff_iff, hasB_iff]
  simp [inS]
theorem ofS_len {lo hi : Nat} : (tl (hasB (lo, hi)) 16 0).length ≤ 30 := by
  have := tl_few lo hi 16 0 (by decide)
  rw [inS_is] at this
  exact this
theorem ofS_count {lo hi : Nat} (q : Nat) (hq : q < 65536) : (tl (hasB (lo, hi)) 16 0).countP (hos q) = if hasB (lo, hi) q = true then 1 else 0 := by
  rw [tl_count (hasB (lo, hi)) q 16 0 (Nat.le_refl _) ⟨0, by simp⟩]
  have : decide (0 ≤ q ∧ q < 0 + 2 ^ 16) = true := decide_eq_true ⟨Nat.zero_le _, by omega⟩
  rw [this, Bool.true_and]
theorem ofS_pos {lo hi : Nat} (h1 : lo ≤ hi) (h2 : hi < 65536) : 1 ≤ (tl (hasB (lo, hi)) 16 0).length := by
  have h := ofS_count (lo := lo) (hi := hi) lo (by omega)
  rw [if_pos ((hasB_iff _ _).2 ⟨Nat.le_refl _, h1⟩)] at h
  have := List.countP_le_length (p := hos lo) (l := tl (hasB (lo, hi)) 16 0)
  omega
end Go.Proofs.Ytcjpjofoddpfhaa.Xp
