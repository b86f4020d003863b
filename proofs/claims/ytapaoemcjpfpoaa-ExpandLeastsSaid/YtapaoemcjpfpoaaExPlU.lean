/-
  Stems as spans; the fewest stems by the spans of a union; bits of stems.
-/
import Derived.Test.YtapaoemcjpfpoaaExPlC
import Derived.Test.YtapaoemcjpfpoaaExE
namespace Go.Proofs.Ytapaoemcjpfpoaa
open Go.RowKit
set_option linter.unusedVariables false

/-- A stem's span. -/
def spT (t : Nat × Int) : Nat × Nat := (t.1, topT t.1 t.2)
theorem memB_spT (l : List (Nat × Int)) (i : Nat) : memB (l.map spT) i = memT l i := by
  unfold memB memT
  rw [List.any_map]
  rfl
theorem canon_spT (l : List (Nat × Int)) : canonOf (memB (l.map spT)) = canonOf (memT l) := canonOf_congr fun i _ => memB_spT l i
theorem tl_memT (l : List (Nat × Int)) : tl (memT l) 16 0 = grds (canonOf (memT l)) :=
  tl_canon (canonOf_canon _) fun i hi => by rw [canonOf_mem, decide_eq_true hi, Bool.true_and]
theorem grds_nil : grds [] = [] := rfl
theorem grds_snoc (l : List (Nat × Nat)) (s : Nat × Nat) : grds (l ++ [s]) = grds l ++ grd 65536 s.1 (s.2 + 1 - s.1) := by
  unfold grds
  rw [List.flatMap_append]
  simp
theorem bd_spT {l : List (Nat × Int)} (hb : BdT l) (ho : okT l = true) : ∀ s ∈ l.map spT, s.1 < 65536 ∧ s.2 < 65536 := by
  intro s hs
  obtain ⟨t, ht, rfl⟩ := List.mem_map.1 hs
  have h1 := hb t ht
  have h2 := List.all_eq_true.1 ho t ht
  exact ⟨h1, (topT_lt h1 h2).1⟩
/-- The bits beyond k, by a shift up in 16 bits. -/
theorem shl_zero (b n : Nat) (h : n ≤ 16) : b * 2 ^ n % 65536 = 0 ↔ b % 2 ^ (16 - n) = 0 := by
  have e : 65536 = 2 ^ (16 - n) * 2 ^ n := by rw [← Nat.pow_add, show 16 - n + n = 16 by omega]
  rw [e, Nat.mul_mod_mul_right]
  have : 0 < 2 ^ n := Nat.pow_pos (by decide)
  constructor
  · intro h
    rcases Nat.mul_eq_zero.1 h with h | h
    · exact h
    · omega
  · intro h; rw [h, Nat.zero_mul]
theorem and_low (b k : Nat) : b &&& (2 ^ k - 1) = b % 2 ^ k := Nat.and_two_pow_sub_one_eq_mod b k
theorem xor_high (a b k : Nat) : (a ^^^ b) / 2 ^ k = 0 ↔ a / 2 ^ k = b / 2 ^ k := by
  rw [← Nat.shiftRight_eq_div_pow, ← Nat.shiftRight_eq_div_pow, ← Nat.shiftRight_eq_div_pow, Nat.shiftRight_xor_distrib]
  generalize a >>> k = x
  generalize b >>> k = y
  constructor
  · intro h
    apply Nat.eq_of_testBit_eq
    intro i
    have := congrArg (fun z => z.testBit i) h
    simp only [Nat.testBit_xor, Nat.zero_testBit] at this
    revert this
    cases x.testBit i <;> cases y.testBit i <;> simp
  · rintro rfl; exact Nat.xor_self x
theorem or_top (b k : Nat) (h : b % 2 ^ k = 0) : b ||| (2 ^ k - 1) = b + 2 ^ k - 1 := by
  have hp : 0 < 2 ^ k := Nat.pow_pos (by decide)
  have e := Nat.div_add_mod b (2 ^ k)
  rw [h, Nat.add_zero] at e
  rw [← e, ← Nat.two_pow_add_eq_or_of_lt (by omega)]
  omega
end Go.Proofs.Ytapaoemcjpfpoaa
