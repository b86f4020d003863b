/-
  Two stems: one holds all of the other one, or they share no port.
-/
import Derived.Test.YtcjpjofoddpfhaaExA
import Derived.Test.YtcjpjofoddpfhaaSpPlain
namespace Go.Proofs.Ytcjpjofoddpfhaa.Xp
open Go.RowKit
set_option linter.unusedVariables false

theorem in_block {b : Nat} {n : Int} (h : mayT b n = true) (q : Nat) : b / 2 ^ (16 - n.toNat) = q / 2 ^ (16 - n.toNat) ↔ b ≤ q ∧ q ≤ topT b n := by
  have hmm : 0 ≤ n ∧ n ≤ 16 ∧ b % 2 ^ (16 - n.toNat) = 0 := of_decide_eq_true h
  unfold topT
  have hp : 0 < 2 ^ (16 - n.toNat) := Nat.pow_pos (by decide)
  have e := Nat.div_add_mod b (2 ^ (16 - n.toNat))
  rw [hmm.2.2, Nat.add_zero] at e
  have e2 := Nat.div_add_mod q (2 ^ (16 - n.toNat))
  have e3 := Nat.mod_lt q hp
  generalize 2 ^ (16 - n.toNat) = z at *
  constructor
  · intro he
    rw [← he] at e2
    omega
  · rintro ⟨h1, h2⟩
    generalize b / z = k at *
    generalize q / z = j at *
    subst e
    have h3 : k ≤ j := by
      apply Nat.le_of_not_lt
      intro hc
      have := Nat.mul_le_mul_left z hc
      rw [Nat.mul_succ] at this
      omega
    have h4 : j ≤ k := by
      apply Nat.le_of_not_lt
      intro hc
      have := Nat.mul_le_mul_left z hc
      rw [Nat.mul_succ] at this
      omega
    omega
theorem hasT_is {b : Nat} {n : Int} (h : mayT b n = true) (q : Nat) : hasT b n q = hasB (b, topT b n) q := by
  rw [Bool.eq_iff_iff, hasB_iff]
  unfold hasT
  rw [h, Bool.true_and, decide_eq_true_iff]
  exact in_block h q
theorem stem_in {b c : Nat} {n m : Int} (h1 : mayT b n = true) (h2 : mayT c m = true) (hnm : n ≤ m) (hm : max b c ≤ min (topT b n) (topT c m)) : b ≤ c ∧ topT c m ≤ topT b n := by
  have g1 : 0 ≤ n ∧ n ≤ 16 ∧ b % 2 ^ (16 - n.toNat) = 0 := of_decide_eq_true h1
  have g2 : 0 ≤ m ∧ m ≤ 16 ∧ c % 2 ^ (16 - m.toNat) = 0 := of_decide_eq_true h2
  have e : 2 ^ (16 - n.toNat) = 2 ^ (16 - m.toNat) * 2 ^ (m.toNat - n.toNat) := by rw [← Nat.pow_add]; congr 1; omega
  have k1 := (in_block h1 (max b c)).2 ⟨by omega, by omega⟩
  have k2 := (in_block h2 (max b c)).2 ⟨by omega, by omega⟩
  have hct : c ≤ topT c m := by omega
  have k3 := (in_block h2 (topT c m)).2 ⟨hct, Nat.le_refl _⟩
  have d1 : c / 2 ^ (16 - n.toNat) = (max b c) / 2 ^ (16 - n.toNat) := by rw [e, ← Nat.div_div_eq_div_mul, k2, Nat.div_div_eq_div_mul]
  have d2 : topT c m / 2 ^ (16 - n.toNat) = c / 2 ^ (16 - n.toNat) := by rw [e, ← Nat.div_div_eq_div_mul, ← k3, Nat.div_div_eq_div_mul]
  have r1 := (in_block h1 c).1 (k1.trans d1.symm)
  have r2 := (in_block h1 (topT c m)).1 (k1.trans (d1.symm.trans d2.symm))
  exact ⟨r1.1, r2.2⟩
theorem stems_meet {b c : Nat} {n m : Int} (h1 : mayT b n = true) (h2 : mayT c m = true) (hm : max b c ≤ min (topT b n) (topT c m)) :
    (max b c = b ∧ min (topT b n) (topT c m) = topT b n) ∨ (max b c = c ∧ min (topT b n) (topT c m) = topT c m) := by
  rcases Int.le_total n m with h | h
  · have := stem_in h1 h2 h hm
    right; omega
  · have := stem_in h2 h1 h (by omega)
    left; omega
theorem both_meet {b c : Nat} {n m : Int} (h1 : mayT b n = true) (h2 : mayT c m = true) (q : Nat) : (hasT b n q && hasT c m q) = hasB (max b c, min (topT b n) (topT c m)) q := by
  rw [hasT_is h1, hasT_is h2, Bool.eq_iff_iff, Bool.and_eq_true, hasB_iff, hasB_iff, hasB_iff]
  simp only
  omega
theorem both_none {b c : Nat} {n m : Int} (h1 : mayT b n = true) (h2 : mayT c m = true) (hm : ¬ max b c ≤ min (topT b n) (topT c m)) (q : Nat) : (hasT b n q && hasT c m q) = false := by
  rw [both_meet h1 h2, ← Bool.not_eq_true, hasB_iff]
  simp only
  omega
end Go.Proofs.Ytcjpjofoddpfhaa.Xp
