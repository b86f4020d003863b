/-
  Plain arithmetic on the halves of a prefix: no program is named here.
-/
import Derived.Test.YthmekipdhlipbaaPxPlC
import Derived.Test.YthmekipdhlipbaaPxU
namespace Go.Proofs.Ythmekipdhlipbaa
open Go.RowKit
set_option linter.unusedVariables false
set_option linter.unusedSimpArgs false
theorem has_in2 (a n x : Nat) (hn : n ≤ 32) (h0 : a % bk n = 0) : hasB a n x = decide (a ≤ x ∧ x ≤ hi a n) := by
  rw [hasB_in (chk_in a n hn h0)]
  unfold hi
  rw [decide_eq_decide]
  have p := bk_pos n
  constructor
  · intro e
    have h1 := ct_add x n
    have h2 := Nat.mod_lt x p
    omega
  · rintro ⟨h1, h2⟩
    obtain ⟨c, rfl⟩ := Nat.dvd_of_mod_eq_zero h0
    unfold ct
    have : x / bk n = c := by
      apply Nat.div_eq_of_lt_le
      · rw [Nat.mul_comm]; exact h1
      · rw [Nat.add_mul, Nat.mul_comm c]; omega
    rw [this, Nat.mul_comm]
theorem half_hi' (a n : Nat) (hn : n < 32) (ha : a < 4294967296) (h0 : a % bk n = 0) :
    (∀ x, hasB a (n : Int) x = (hasB a ((n + 1 : Nat) : Int) x != hasB (a + bk (n + 1)) ((n + 1 : Nat) : Int) x)) ∧ a + bk (n + 1) < 4294967296 ∧ witB a ((n + 1 : Nat) : Int) a (n : Int) = true ∧ witB (a + bk (n + 1)) ((n + 1 : Nat) : Int) a (n : Int) = true := by
  have lo := half_lo a n h0
  have hh := half_hi a n hn ha h0
  have h1 := bk_succ n hn
  have h2 := bk_pos (n + 1)
  refine ⟨fun x => ?_, hh.1, ?_, ?_⟩
  · rw [has_in2 a n x (by omega) h0, has_in2 a (n + 1) x (by omega) lo, has_in2 (a + bk (n + 1)) (n + 1) x (by omega) hh.2]
    unfold hi
    by_cases c1 : a ≤ x ∧ x ≤ a + (bk (n + 1) - 1)
    · rw [decide_eq_true c1, decide_eq_true (by omega), decide_eq_false (by omega)]; rfl
    · rw [decide_eq_false c1]
      by_cases c2 : a + bk (n + 1) ≤ x ∧ x ≤ a + bk (n + 1) + (bk (n + 1) - 1)
      · rw [decide_eq_true c2, decide_eq_true (by omega)]; rfl
      · rw [decide_eq_false c2, decide_eq_false (by omega)]; rfl
  · exact (wit_runs a (n + 1) a n (by omega) (by omega) lo h0).2 ⟨Nat.le_refl _, by unfold hi; omega⟩
  · exact (wit_runs (a + bk (n + 1)) (n + 1) a n (by omega) (by omega) hh.2 h0).2 ⟨by omega, by unfold hi; omega⟩
theorem cmp_up2 (qa pa : Nat) (qn pn : Int) (h : qa < pa) : orI (cmpI (qa : Int) pa) (cmpI qn pn) = -1 := by
  have h' : (qa : Int) < pa := by omega
  simp [orI, cmpI, h']
end Go.Proofs.Ythmekipdhlipbaa
