/-
  Stems: what the small functions of the document's answer hand back (May, Check, Has, Span); one contract a function, for every world.
-/
import Derived.Test.YtcjpjofoddpfhaaProg
import Derived.Test.YtcjpjofoddpfhaaExPlB
import Derived.Test.YtcjpjofoddpfhaaPxKin
import Derived.Laws.BitsAllLaws
namespace Go.Proofs.Ytcjpjofoddpfhaa.Xp
open Go.RowKit
set_option linter.unusedVariables false
set_option linter.unusedSimpArgs false

/-- The bit i of a number of 16 bits, counted from its first. -/
def bt (b i : Nat) : Nat := b / 2 ^ (15 - i) % 2
theorem bt_lt (b i : Nat) : bt b i < 2 := Nat.mod_lt _ (by decide)
theorem and_bt (b k : Nat) (hb : b < 65536) : bits .and .u16 ((b : Int) / 2 ^ k) 1 = ((b / 2 ^ k % 2 : Nat) : Int) := by
  have e : (b : Int) / 2 ^ k = ((b / 2 ^ k : Nat) : Int) := by simp
  rw [e]
  have h := u16_and_nat (b / 2 ^ k) 1 (Nat.lt_of_le_of_lt (Nat.div_le_self _ _) hb) (by decide)
  rw [nat_mask1] at h
  exact h
/-- May the stem be? -/
def mayT (b : Nat) (n : Int) : Bool := decide (0 ≤ n ∧ n ≤ 16 ∧ b % 2 ^ (16 - n.toNat) = 0)
def hasT (b : Nat) (n : Int) (q : Nat) : Bool := mayT b n && decide (b / 2 ^ (16 - n.toNat) = q / 2 ^ (16 - n.toNat))
theorem mod_bt (b i : Nat) (h : i < 16) : b % 2 ^ (16 - i) = bt b i * 2 ^ (15 - i) + b % 2 ^ (16 - (i + 1)) := by
  unfold bt
  rw [show 16 - i = (15 - i) + 1 by omega, show 16 - (i + 1) = 15 - i by omega, Nat.pow_succ, Nat.mod_mul]
  rw [Nat.mul_comm, Nat.add_comm]
theorem div_bt (b i : Nat) (h : i < 16) : b / 2 ^ (16 - (i + 1)) = b / 2 ^ (16 - i) * 2 + bt b i := by
  unfold bt
  rw [show 16 - i = (15 - i) + 1 by omega, show 16 - (i + 1) = 15 - i by omega, Nat.pow_succ, ← Nat.div_div_eq_div_mul]
  omega
/-- The last port of a stem. -/
def topT (b : Nat) (n : Int) : Nat := b + 2 ^ (16 - n.toNat) - 1
theorem topT_lt {b : Nat} {n : Int} (hb : b < 65536) (h : mayT b n = true) : topT b n < 65536 ∧ b ≤ topT b n := by
  have hmm : 0 ≤ n ∧ n ≤ 16 ∧ b % 2 ^ (16 - n.toNat) = 0 := of_decide_eq_true h
  unfold topT
  have hp : 0 < 2 ^ (16 - n.toNat) := Nat.pow_pos (by decide)
  have hd : 2 ^ (16 - n.toNat) ∣ 65536 := pow_dvd_le (f := 16 - n.toNat) (g := 16) (by omega)
  obtain ⟨c, hc⟩ := hd
  have hb2 := Nat.div_add_mod b (2 ^ (16 - n.toNat))
  rw [hmm.2.2, Nat.add_zero] at hb2
  generalize 2 ^ (16 - n.toNat) = z at *
  generalize b / z = y at *
  subst hb2
  have hyc : y < c := by
    rw [hc] at hb
    exact Nat.lt_of_mul_lt_mul_left hb
  have h2 : z * (y + 1) ≤ z * c := Nat.mul_le_mul_left z hyc
  rw [Nat.mul_add, Nat.mul_one] at h2
  omega
end Go.Proofs.Ytcjpjofoddpfhaa.Xp
