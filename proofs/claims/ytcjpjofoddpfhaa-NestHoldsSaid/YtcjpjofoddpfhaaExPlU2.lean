/-
  Bits of stems.
-/
import Derived.Test.YtcjpjofoddpfhaaExPlC
namespace Go.Proofs.Ytcjpjofoddpfhaa.Xp
open Go.RowKit
set_option linter.unusedVariables false

theorem and_low (b k : Nat) : b &&& (2 ^ k - 1) = b % 2 ^ k := Nat.and_two_pow_sub_one_eq_mod b k
theorem xor_high (a b k : Nat) : (a ^^^ b) / 2 ^ k = 0 ↔ a / 2 ^ k = b / 2 ^ k := by
  rw [← Nat.shiftRight_eq_div_pow, ← Nat.shiftRight_eq_div_pow, ← Nat.shiftRight_eq_div_pow, Nat.shiftRight_xor_distrib]
  generalize a >>> k = x
  generalize b >>> k = y
  constructor
  · intro h
    apply Nat.eq_of_testBit_eq
    intro i
    have := congrArg (fun z => z.testBit i) h
    simp only [Nat.testBit_xor, Nat.zero_testBit] at this
    revert this
    cases x.testBit i <;> cases y.testBit i <;> simp
  · rintro rfl; exact Nat.xor_self x
theorem or_top (b k : Nat) (h : b % 2 ^ k = 0) : b ||| (2 ^ k - 1) = b + 2 ^ k - 1 := by
  have hp : 0 < 2 ^ k := Nat.pow_pos (by decide)
  have e := Nat.div_add_mod b (2 ^ k)
  rw [h, Nat.add_zero] at e
  rw [← e, ← Nat.two_pow_add_eq_or_of_lt (by omega)]
  omega
end Go.Proofs.Ytcjpjofoddpfhaa.Xp
