/-
  Bits of stems as the code reckons them; the greedy stems, one step. No program is named here.
-/
import Derived.Test.YtcjpjofoddpfhaaExK2
import Derived.Test.YtcjpjofoddpfhaaExPlU2
namespace Go.Proofs.Ytcjpjofoddpfhaa.Xp
open Go.RowKit
set_option linter.unusedVariables false

theorem tail_is (n : Nat) (h : n ≤ 16) : 65535 / 2 ^ n = 2 ^ (16 - n) - 1 :=
  (by decide +kernel : ∀ n, n < 17 → 65535 / 2 ^ n = 2 ^ (16 - n) - 1) n (by omega)
theorem tail_int (n : Nat) (h : n ≤ 16) : (65535 : Int) / 2 ^ n = ((2 ^ (16 - n) - 1 : Nat) : Int) := by
  rw [← tail_is n h]
  simp
theorem two_pos (k : Nat) : 0 < 2 ^ k := Nat.pow_pos (by decide)
theorem two_le16 {k : Nat} (h : k ≤ 16) : 2 ^ k ≤ 65536 := pow_le (f := k) (g := 16) h
/-- The mask of one bit more. -/
theorem wider_nat (j : Nat) (h : j ≤ 16) : (2 ^ j - 1) * 2 % 65536 ||| 1 = (2 ^ (j + 1) - 1) % 65536 :=
  (by decide +kernel : ∀ j, j < 17 → (2 ^ j - 1) * 2 % 65536 ||| 1 = (2 ^ (j + 1) - 1) % 65536) j (by omega)
theorem wider_lt (j : Nat) (h : j < 16) : (2 ^ (j + 1) - 1) % 65536 = 2 ^ (j + 1) - 1 :=
  (by decide +kernel : ∀ j, j < 16 → (2 ^ (j + 1) - 1) % 65536 = 2 ^ (j + 1) - 1) j h
theorem every_iff (j : Nat) (h : j ≤ 16) : 2 ^ j - 1 = 65535 ↔ j = 16 :=
  (by decide +kernel : ∀ j, j < 17 → (2 ^ j - 1 = 65535 ↔ j = 16)) j (by omega)
theorem andNot_high (q k : Nat) (hq : q < 65536) (hk : k ≤ 16) : q &&& (65535 - (2 ^ k - 1)) = q / 2 ^ k * 2 ^ k := by
  have e : 65535 - (2 ^ k - 1) = (2 ^ (16 - k) - 1) <<< k :=
    (by decide +kernel : ∀ k, k < 17 → 65535 - (2 ^ k - 1) = (2 ^ (16 - k) - 1) <<< k) k (by omega)
  rw [e, ← Nat.shiftRight_eq_div_pow, ← Nat.shiftLeft_eq]
  apply Nat.eq_of_testBit_eq
  intro i
  rw [Nat.testBit_and, Nat.testBit_shiftLeft, Nat.testBit_shiftLeft, Nat.testBit_two_pow_sub_one, Nat.testBit_shiftRight]
  by_cases h1 : k ≤ i
  · by_cases h2 : i < 16
    · have a1 : decide (i ≥ k) = true := decide_eq_true h1
      have a2 : decide (i - k < 16 - k) = true := decide_eq_true (by omega)
      rw [a1, a2, show k + (i - k) = i by omega]
      simp
    · have : q.testBit i = false := Nat.testBit_lt_two_pow (Nat.lt_of_lt_of_le hq (by
        have : 2 ^ 16 ≤ 2 ^ i := Nat.pow_le_pow_right (by decide) (by omega)
        simpa using this))
      rw [show k + (i - k) = i by omega, this]
      simp
  · have a1 : decide (i ≥ k) = false := decide_eq_false (by omega)
    rw [a1]
    simp
/-- The port's bits are the stem's. -/
theorem high_iff (q b k : Nat) (hb : b % 2 ^ k = 0) : q / 2 ^ k * 2 ^ k = b ↔ b / 2 ^ k = q / 2 ^ k := by
  have hp := two_pos k
  have e := Nat.div_add_mod b (2 ^ k)
  rw [hb, Nat.add_zero, Nat.mul_comm] at e
  generalize 2 ^ k = z at *
  constructor
  · intro h
    rw [← e] at h
    exact (Nat.eq_of_mul_eq_mul_right hp h).symm
  · intro h
    rw [← h]; exact e
theorem grd_len : ∀ k a n, (grd k a n).length ≤ k
  | 0, a, n => Nat.le_refl _
  | k + 1, a, n => by
    unfold grd
    split
    · exact Nat.zero_le _
    · rw [List.length_cons]
      exact Nat.succ_le_succ (grd_len k _ _)
theorem grds_len (l : List (Nat × Nat)) : (grds l).length ≤ l.length * 65536 := by
  induction l with
  | nil => exact Nat.zero_le _
  | cons s l ih =>
    have e : grds (s :: l) = grd 65536 s.1 (s.2 + 1 - s.1) ++ grds l := rfl
    rw [e, List.length_append, List.length_cons]
    have := grd_len 65536 s.1 (s.2 + 1 - s.1)
    omega
/-- What has been met, and what is to come. -/
def Gone (lo hi : Nat) (a : Nat) (pre : List (Nat × Nat)) : Prop := ∃ k, hi + 1 - a ≤ k ∧ grd 65536 lo (hi + 1 - lo) = pre ++ grd k a (hi + 1 - a)
theorem Gone.start (lo hi : Nat) (h : hi < 65536) : Gone lo hi lo [] := ⟨65536, by omega, rfl⟩
theorem Gone.step {lo hi a : Nat} {pre : List (Nat × Nat)} (h : Gone lo hi a pre) (ha : a ≤ hi) : Gone lo hi (a + 2 ^ mf a (hi + 1 - a) 16) (pre ++ [(a, 16 - mf a (hi + 1 - a) 16)]) := by
  obtain ⟨k, hk, e⟩ := h
  obtain ⟨k', rfl⟩ : ∃ k', k = k' + 1 := ⟨k - 1, by omega⟩
  rw [grd_succ k' a _ (by omega)] at e
  have hp := two_pos (mf a (hi + 1 - a) 16)
  refine ⟨k', by omega, ?_⟩
  rw [e, List.append_assoc, List.singleton_append, show hi + 1 - (a + 2 ^ mf a (hi + 1 - a) 16) = hi + 1 - a - 2 ^ mf a (hi + 1 - a) 16 by omega]
theorem Gone.done {lo hi a : Nat} {pre : List (Nat × Nat)} (h : Gone lo hi a pre) (ha : hi < a) : pre = grd 65536 lo (hi + 1 - lo) := by
  obtain ⟨k, hk, e⟩ := h
  rw [show hi + 1 - a = 0 by omega, grd_zero, List.append_nil] at e
  exact e.symm
theorem Gone.len {lo hi a : Nat} {pre : List (Nat × Nat)} (h : Gone lo hi a pre) : pre.length ≤ 65536 := by
  obtain ⟨k, hk, e⟩ := h
  have := congrArg List.length e
  rw [List.length_append] at this
  have := grd_len 65536 lo (hi + 1 - lo)
  omega
theorem mf_bd {a hi : Nat} (h : a ≤ hi) : mf a (hi + 1 - a) 16 ≤ 16 ∧ a + 2 ^ mf a (hi + 1 - a) 16 ≤ hi + 1 := by
  obtain ⟨h1, h2, h3, h4⟩ := mf_is a (hi + 1 - a) (by omega) 16
  exact ⟨h1, by omega⟩
end Go.Proofs.Ytcjpjofoddpfhaa.Xp
