/-
  The halves of a prefix: each address of it in just one; as many in each. The least header that two boxes hold. No program is named here.
-/
import Derived.Test.YtebljklpkoheaaaGreatRuPlC
namespace Go.Proofs.YtebljklpkoheaaaGreat
set_option linter.unusedVariables false

theorem half_mods {a n : Nat} (hn : n < 32) (h : a % Pf.bk n = 0) : a % Pf.bk (n + 1) = 0 ∧ (a + Pf.bk (n + 1)) % Pf.bk (n + 1) = 0 := by
  have h1 := Pf.mod_longer a n (n + 1) (by omega) h
  exact ⟨h1, by rw [Nat.add_mod_right]; exact h1⟩
/-- An address begins as a prefix does just if it begins as one of its halves does, and never as both. -/
theorem half_has {a n : Nat} (hn : n < 32) (h : a % Pf.bk n = 0) (x : Nat) : (decide (Pf.ct x n = a) = (decide (Pf.ct x (n + 1) = a) != decide (Pf.ct x (n + 1) = a + Pf.bk (n + 1)))) ∧ (decide (Pf.ct x (n + 1) = a) && decide (Pf.ct x (n + 1) = a + Pf.bk (n + 1))) = false := by
  obtain ⟨h1, h2⟩ := half_mods hn h
  have e := Pf.bk_succ n hn
  have p := Pf.bk_pos (n + 1)
  have q0 := ct_between (x := x) h
  have q1 := ct_between (x := x) h1
  have q2 := ct_between (x := x) h2
  generalize Pf.ct x n = u at *
  generalize Pf.ct x (n + 1) = v at *
  generalize Pf.bk n = b at *
  generalize Pf.bk (n + 1) = b2 at *
  by_cases c1 : v = a
  · have c2 : ¬ v = a + b2 := by omega
    have c0 : u = a := by rw [q0]; have := q1.1 c1; omega
    rw [decide_eq_true c1, decide_eq_false c2, decide_eq_true c0]
    exact ⟨rfl, rfl⟩
  · by_cases c2 : v = a + b2
    · have c0 : u = a := by rw [q0]; have := q2.1 c2; omega
      rw [decide_eq_false c1, decide_eq_true c2, decide_eq_true c0]
      exact ⟨rfl, rfl⟩
    · have c0 : ¬ u = a := by rw [q0]; rw [q1] at c1; rw [q2] at c2; omega
      rw [decide_eq_false c1, decide_eq_false c2, decide_eq_false c0]
      exact ⟨rfl, rfl⟩
/-- What two boxes hold stands, field by field, at the least header of both or behind it. -/
theorem least_le {X Y : Bx} {s d p q r : Nat} (h1 : hasX X s d p q r = true) (h2 : hasX Y s d p q r = true) : (meetB X Y).a.1 ≤ s ∧ (meetB X Y).b.1 ≤ d ∧ (meetB X Y).c.1 ≤ p ∧ (meetB X Y).d.1 ≤ q ∧ (meetB X Y).m.1 ≤ r := by
  unfold hasX at h1 h2
  simp only [Bool.and_eq_true] at h1 h2
  obtain ⟨ox, ⟨⟨⟨a1, a2⟩, a3⟩, a4⟩, a5⟩ := h1
  obtain ⟨oy, ⟨⟨⟨b1, b2⟩, b3⟩, b4⟩, b5⟩ := h2
  have a1 := of_decide_eq_true a1
  have a2 := of_decide_eq_true a2
  have a3 := of_decide_eq_true a3
  have a4 := of_decide_eq_true a4
  have a5 := of_decide_eq_true a5
  have b1 := of_decide_eq_true b1
  have b2 := of_decide_eq_true b2
  have b3 := of_decide_eq_true b3
  have b4 := of_decide_eq_true b4
  have b5 := of_decide_eq_true b5
  unfold meetB meetI
  simp only
  refine ⟨by omega, by omega, by omega, by omega, ?_⟩
  rw [← a5, ← b5, ← Nat.and_or_distrib_left]
  exact Nat.and_le_left
end Go.Proofs.YtebljklpkoheaaaGreat
