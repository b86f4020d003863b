/-
  Plain arithmetic on prefixes, more: no program is named here.
-/
import Derived.Test.YtgidohnikggjfaaGreatPxPlain
namespace Go.Proofs.YtgidohnikggjfaaGreat.Pf
open Go.RowKit
set_option linter.unusedVariables false
set_option linter.unusedSimpArgs false

/-- A bit apart: the longer beginnings are apart. -/
theorem ct_apart (a x m k : Nat) (hk : k < m) (hm : m ≤ 32) (hc : ct a k = ct x k) (ht : tb a k ≠ tb x k) : ct x m ≠ a := by
  intro e
  have h1 : ct a (k + 1) = ct x (k + 1) := by rw [← e]; exact ct_ct x (k + 1) m (by omega)
  rw [ct_step a k (by omega), ct_step x k (by omega), hc] at h1
  have h2 : bk (k + 1) * tb a k = bk (k + 1) * tb x k := by omega
  exact ht (Nat.eq_of_mul_eq_mul_left (bk_pos (k + 1)) h2)
theorem ct_alike (a x k : Nat) (hk : k < 32) (hc : ct a k = ct x k) (ht : tb a k = tb x k) : ct a (k + 1) = ct x (k + 1) := by
  rw [ct_step a k hk, ct_step x k hk, hc, ht]
theorem has_cut (a k x : Nat) (hk : k ≤ 32) : hasB (ct a k) (k : Int) x = decide (ct x k = ct a k) := hasB_in (chk_in _ _ hk (ct_mod a k))
/-- A prefix lies within its own cut just if the cut is not longer. -/
theorem wit_cut (a n k : Nat) (hk : k ≤ 32) (ka : chk a (n : Int) = 0) : witB a (n : Int) (ct a k) (k : Int) = decide (k ≤ n) := by
  unfold witB; rw [has_cut a k a hk]; simp [ka]
theorem wit_cut' (a b m k : Nat) (hk : k ≤ 32) (ha : a < 4294967296) (hb : b < 4294967296) (kb : chk b (m : Int) = 0) : witB b (m : Int) (ct a k) (k : Int) = decide (k ≤ m ∧ k ≤ lz a b) := by
  unfold witB; rw [has_cut a k b hk]
  have := ct_lz a b k ha hb hk
  rw [decide_eq_decide]
  simp only [kb, true_and, decide_eq_true_eq]
  exact ⟨fun h => ⟨by omega, this.1 h.2.symm⟩, fun h => ⟨by omega, (this.2 h.2).symm⟩⟩
end Go.Proofs.YtgidohnikggjfaaGreat.Pf
