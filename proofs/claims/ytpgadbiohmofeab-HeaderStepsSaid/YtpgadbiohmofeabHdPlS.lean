/-
  Headers in their order, a step at a time. No program is named here.
-/
import Derived.Test.YtpgadbiohmofeabHdPlB
namespace Go.Proofs.Ytpgadbiohmofeab
set_option linter.unusedVariables false

theorem cmp_neg {a b : Hd} : cmpH a b = -1 ↔ val a < val b := by
  unfold cmpH
  by_cases h : val a < val b
  · rw [if_pos h]; simp [h]
  · rw [if_neg h]
    by_cases h2 : val b < val a
    · rw [if_pos h2]; simp [h]
    · rw [if_neg h2]; simp [h]
theorem cmp_le {a b : Hd} : cmpH a b ≤ 0 ↔ val a ≤ val b := by
  unfold cmpH
  by_cases h : val a < val b
  · rw [if_pos h]; omega
  · rw [if_neg h]
    by_cases h2 : val b < val a
    · rw [if_pos h2]; omega
    · rw [if_neg h2]; omega
theorem step_next {h : Hd} (o : OkH h) (hn : hasN h = true) : cmpH h (nxt h) = -1 := cmp_neg.2 (by have := (nxt_val o hn).2; omega)
theorem step_none {h x : Hd} (o : OkH h) (hn : hasN h = true) (hx : cmpH h x = -1) : cmpH x (nxt h) ≠ -1 := by
  intro hc
  have h1 := cmp_neg.1 hx
  have h2 := cmp_neg.1 hc
  have := (nxt_val o hn).2
  omega
theorem step_last {h x : Hd} (o : OkH h) (ox : OkH x) (hn : hasN h = false) : cmpH x h ≤ 0 := cmp_le.2 (by have := (nxt_no o hn).2; have := val_lt ox; omega)
/-- Are the first k bits all 1? -/
def allB (h : Hd) : Nat → Bool
  | 0 => true
  | k + 1 => allB h k && decide (bitH h k = 1)
theorem allB_iff (h : Hd) : ∀ k, allB h k = true ↔ ∀ i, i < k → bitH h i = 1
  | 0 => ⟨fun _ i hi => absurd hi (by omega), fun _ => rfl⟩
  | k + 1 => by
    show (allB h k && decide (bitH h k = 1)) = true ↔ _
    rw [Bool.and_eq_true, allB_iff h k, decide_eq_true_iff]
    constructor
    · rintro ⟨h1, h2⟩ i hi
      by_cases e : i = k
      · rw [e]; exact h2
      · exact h1 i (by omega)
    · intro h1
      exact ⟨fun i hi => h1 i (by omega), h1 k (by omega)⟩
theorem allB_all {h : Hd} (o : OkH h) : allB h 104 = !hasN h := by
  rw [Bool.eq_iff_iff, allB_iff, all_ones o]
  cases hasN h <;> simp
theorem bit_cases (h : Hd) (i : Nat) : bitH h i = 0 ∨ bitH h i = 1 := by have := bitH_lt h i; omega
end Go.Proofs.Ytpgadbiohmofeab
