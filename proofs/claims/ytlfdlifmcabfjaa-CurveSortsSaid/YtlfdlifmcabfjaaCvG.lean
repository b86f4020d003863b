/-
  Any float against whole numbers: when is it a whole number of a square's side? No program is named here.
-/
import Derived.Test.YtlfdlifmcabfjaaCvF
import Derived.Test.YtlfdlifmcabfjaaCvPl
namespace Go.Proofs.Ytlfdlifmcabfjaa
open Ieee
set_option linter.unusedVariables false
set_option linter.unusedSimpArgs false

theorem signed_pow (s : Bool) (m k : Nat) (c : Nat) : signed s m (k + c) = signed s m k * 2 ^ c := by
  unfold signed
  rw [Nat.shiftLeft_eq, Nat.shiftLeft_eq, Nat.pow_add, ← Nat.mul_assoc, Int.natCast_mul (m * 2 ^ k) (2 ^ c)]
  have : ((2 ^ c : Nat) : Int) = 2 ^ c := by rw [Int.natCast_pow]; rfl
  rw [this]
  cases s <;> simp
  rw [Int.neg_mul]
theorem ord_gen (s : Bool) (m : Nat) (i : Int) {e : Datum} {v : Int} (he : IsV e v) : (Datum.number s m i).order e = some (compare (signed s m i.toNat) (v * 2 ^ (-i).toNat)) := by
  obtain ⟨t, ht, j, rfl⟩ := he
  simp only [Datum.order]
  rw [signed_val ht]
  congr 1
  obtain ⟨c, hc⟩ : ∃ c : Nat, c = j - (-i).toNat := ⟨_, rfl⟩
  have e1 : (i - min i (-(j : Int))).toNat = i.toNat + c := by omega
  have e2 : j + (-(j : Int) - min i (-(j : Int))).toNat = (-i).toNat + c := by omega
  rw [e1, e2, signed_pow, Int.pow_add, ← Int.mul_assoc, cmp_mul]
/-- Whole part, towards zero. -/
def whI (b : Nat) : Int := ((double.read b).toInt .zero).getD 0
def ge0 (b : Nat) : Bool := (double.order b 0 == some .gt) || (double.order b 0 == some .eq)
def ltN (n : Nat) (b : Nat) : Bool := double.order b (FL (2 ^ n)) == some .lt
def eqW (b : Nat) : Bool := double.order b (FL (whI b)) == some .eq
/-- The whole number that a float is, from 0 to 2^n - 1. -/
def wh (n : Nat) (b : Nat) : Option Int := if ge0 b && ltN n b && eqW b then some (whI b) else none

theorem cmp_ge {a b : Int} (h : (some (compare a b) == some .gt || some (compare a b) == some .eq) = true) : b ≤ a := by
  simp only [compare, compareOfLessAndEq] at h
  by_cases h1 : a < b
  · rw [if_pos h1] at h; simp at h
  · omega
theorem cmp_lt {a b : Int} (h : (some (compare a b) == some .lt) = true) : a < b := by
  simp only [compare, compareOfLessAndEq] at h
  by_cases h1 : a < b
  · exact h1
  · rw [if_neg h1] at h; by_cases h2 : a = b
    · rw [if_pos h2] at h; simp at h
    · rw [if_neg h2] at h; simp at h
theorem cmp_eq {a b : Int} (h : (some (compare a b) == some .eq) = true) : a = b := by
  simp only [compare, compareOfLessAndEq] at h
  by_cases h1 : a < b
  · rw [if_pos h1] at h; simp at h
  · rw [if_neg h1] at h; by_cases h2 : a = b
    · exact h2
    · rw [if_neg h2] at h; simp at h
theorem compare_ge (a b : Int) : (some (compare a b) == some .gt || some (compare a b) == some .eq) = decide (b ≤ a) := by
  simp only [compare, compareOfLessAndEq]
  by_cases h1 : a < b
  · rw [if_pos h1, decide_eq_false (by omega)]; rfl
  · rw [if_neg h1, decide_eq_true (by omega)]; by_cases h2 : a = b
    · rw [if_pos h2]; rfl
    · rw [if_neg h2]; rfl
theorem compare_eq (a b : Int) : (some (compare a b) == some .eq) = decide (a = b) := by
  simp only [compare, compareOfLessAndEq]
  by_cases h1 : a < b
  · rw [if_pos h1, decide_eq_false (by omega)]; rfl
  · rw [if_neg h1]; by_cases h2 : a = b
    · rw [if_pos h2, decide_eq_true h2]; rfl
    · rw [if_neg h2, decide_eq_false h2]; rfl
theorem pow_small {k : Nat} (h : k ≤ 16) : (2 : Int) ^ k ≤ 65536 := by
  have : (2 : Nat) ^ k ≤ 2 ^ 16 := Nat.pow_le_pow_right (by omega) h
  have h' : ((2 ^ k : Nat) : Int) ≤ ((2 ^ 16 : Nat) : Int) := Int.ofNat_le.2 this
  simpa using h'
theorem wd_zero : Wd 0 0 := by
  have : FL 0 = 0 := by decide +kernel
  have h := wd_FL (n := 0) (by decide)
  rwa [this] at h
theorem wd_side {n : Nat} (h : n ≤ 16) : Wd (FL (2 ^ n)) (2 ^ n) := by
  have := pow_small h
  have := two_pos n
  exact wd_FL (by omega)
/-- In the range: a number, with these bounds. -/
theorem rng_num {n b : Nat} (hn : n ≤ 16) (h0 : ge0 b = true) (h1 : ltN n b = true) : ∃ s m i, double.read b = .number s m i ∧ 0 ≤ signed s m i.toNat ∧ signed s m i.toNat < 2 ^ n * 2 ^ (-i).toNat := by
  have hz := wd_zero
  have hs := wd_side hn
  unfold ge0 Format.order at h0
  unfold ltN Format.order at h1
  unfold Wd at hz hs
  cases hr : double.read b with
  | number s m i =>
    rw [hr] at h0 h1
    rw [ord_gen s m i hz] at h0
    rw [ord_gen s m i hs] at h1
    refine ⟨s, m, i, rfl, ?_, cmp_lt h1⟩
    have := cmp_ge h0
    simpa using this
  | infinity s =>
    rw [hr] at h0 h1
    obtain ⟨t, _, j, e⟩ := hs
    obtain ⟨t2, _, j2, e2⟩ := hz
    rw [e] at h1
    rw [e2] at h0
    cases s <;> simp [Datum.order] at h0 h1
  | nan s t =>
    rw [hr] at h0
    simp [Datum.order] at h0
theorem cut_zero (s : Bool) (n d : Nat) : Toward.zero.cut s n d = n / 2 ^ d := by
  unfold Toward.cut
  simp only [Nat.shiftLeft_eq, Nat.one_mul, Bool.toNat_false, Nat.add_zero]
  by_cases h : d ≤ n.log2 + 2
  · rw [Nat.min_eq_left h]
  · rw [Nat.min_eq_right (by omega)]
    have h2 := Nat.lt_log2_self (n := n)
    have a : n < 2 ^ (n.log2 + 2) := Nat.lt_of_lt_of_le h2 (Nat.pow_le_pow_right (by omega) (by omega))
    have b : n < 2 ^ d := Nat.lt_of_lt_of_le h2 (Nat.pow_le_pow_right (by omega) (by omega))
    rw [Nat.div_eq_of_lt a, Nat.div_eq_of_lt b]
theorem signed_shl (s : Bool) (m k : Nat) : signed s m k = signed s (m <<< k) 0 := by unfold signed; simp
/-- In the range: what is whole of it. -/
theorem rng_whole {n b : Nat} (hn : n ≤ 16) (h0 : ge0 b = true) (h1 : ltN n b = true) : ∃ s m i q, double.read b = .number s m i ∧ (double.read b).integral .zero = .number s q 0 ∧ whI b = signed s q 0 ∧ (double.read b).toInt .zero = some (whI b) ∧ 0 ≤ whI b ∧ whI b < 2 ^ n ∧ (s = true → q = 0) ∧ q < 2 ^ n ∧ m <<< i.toNat < 2 ^ n * 2 ^ (-i).toNat := by
  obtain ⟨s, m, i, hr, ha, hb⟩ := rng_num hn h0 h1
  have hi : (double.read b).integral .zero = .number s ((m <<< i.toNat) / 2 ^ (-i).toNat) 0 := by rw [hr]; simp only [Datum.integral]; rw [cut_zero]
  have ht : (double.read b).toInt .zero = some (signed s ((m <<< i.toNat) / 2 ^ (-i).toNat) 0) := by unfold Datum.toInt; rw [hi]
  have hw : whI b = signed s ((m <<< i.toNat) / 2 ^ (-i).toNat) 0 := by unfold whI; rw [ht]; rfl
  rw [signed_shl] at ha hb
  obtain ⟨X, hXe⟩ : ∃ X, X = m <<< i.toNat := ⟨_, rfl⟩
  rw [← hXe] at ha hb hi ht hw
  have hD := Nat.two_pow_pos (-i).toNat
  have e2 : (2 : Int) ^ n * 2 ^ (-i).toNat = ((2 ^ n * 2 ^ (-i).toNat : Nat) : Int) := by rw [Int.natCast_mul, Int.natCast_pow, Int.natCast_pow]; rfl
  rw [e2] at hb
  have hX : (s = true → X = 0) ∧ X < 2 ^ n * 2 ^ (-i).toNat := by
    unfold signed at ha hb
    cases s
    · simp only [Nat.shiftLeft_zero, Bool.false_eq_true, if_false] at ha hb
      exact ⟨fun h => (by cases h), Int.ofNat_lt.1 hb⟩
    · simp only [Nat.shiftLeft_zero, if_true] at ha hb
      have hx0 : X = 0 := by omega
      refine ⟨fun _ => hx0, ?_⟩
      rw [hx0]; exact Nat.mul_pos (Nat.two_pow_pos _) hD
  have hq : X / 2 ^ (-i).toNat < 2 ^ n := (Nat.div_lt_iff_lt_mul hD).2 hX.2
  have hsg : signed s (X / 2 ^ (-i).toNat) 0 = ((X / 2 ^ (-i).toNat : Nat) : Int) := by
    unfold signed
    cases s
    · simp
    · simp [hX.1 rfl]
  have e3 : (2 : Int) ^ n = ((2 ^ n : Nat) : Int) := by rw [Int.natCast_pow]; rfl
  refine ⟨s, m, i, _, hr, hi, hw, by rw [ht, hw], by rw [hw, hsg]; exact Int.natCast_nonneg _, by rw [hw, hsg, e3]; exact Int.ofNat_lt.2 hq, fun h => by rw [hX.1 h]; simp, hq, by rw [← hXe]; exact hX.2⟩
/-- What Trunc makes of it. -/
theorem rng_trunc {n b : Nat} (hn : n ≤ 16) (h0 : ge0 b = true) (h1 : ltN n b = true) : Wd (double.write ((double.read b).integral .zero)) (whI b) := by
  obtain ⟨s, m, i, q, hr, hi, hw, ht, hlo, hhi, hs, hq, _⟩ := rng_whole hn h0 h1
  have hp : (2 : Nat) ^ n ≤ 2 ^ 16 := Nat.pow_le_pow_right (by omega) hn
  rw [hi]
  have hv : whI b = (q : Int) := by
    rw [hw]; unfold signed
    cases s
    · simp
    · simp [hs rfl]
  have hS : IsS s (.number s q 0) (whI b) := by
    refine ⟨fun h => ?_, 0, ?_⟩
    · cases s
      · rw [hv]; exact (decide_eq_false (by omega)).symm
      · exact absurd (by rw [hv, hs rfl]; rfl) h
    · rw [hv]; simp
  exact ⟨s, (write_val hS (by rw [hv]; omega)).1⟩
theorem ord_same {n b e : Nat} (hn : n ≤ 16) (h0 : ge0 b = true) (h1 : ltN n b = true) (he : Wd e (whI b)) : (double.order b e == some .eq) = eqW b ∧ (double.order e b == some .eq) = eqW b := by
  obtain ⟨s, m, i, q, hr, hi, hw, ht, hlo, hhi, hs, hq, hX⟩ := rng_whole hn h0 h1
  have hp := pow_small hn
  have hf : Wd (FL (whI b)) (whI b) := wd_FL (by omega)
  have e1 : double.order b e = some (compare (signed s m i.toNat) (whI b * 2 ^ (-i).toNat)) := by unfold Format.order; rw [hr, ord_gen s m i he]
  have e2 : double.order b (FL (whI b)) = some (compare (signed s m i.toNat) (whI b * 2 ^ (-i).toNat)) := by unfold Format.order; rw [hr, ord_gen s m i hf]
  unfold eqW
  rw [e1, e2]
  refine ⟨rfl, ?_⟩
  have e3 : double.order e b = some (compare (whI b * 2 ^ (-i).toNat) (signed s m i.toNat)) := by
    obtain ⟨t, hts, j, hj⟩ := he
    unfold Format.order
    rw [hr, hj]
    simp only [Datum.order]
    rw [signed_val hts]
    congr 1
    obtain ⟨c, hc⟩ : ∃ c : Nat, c = j - (-i).toNat := ⟨_, rfl⟩
    have a1 : (i - min (-(j : Int)) i).toNat = i.toNat + c := by omega
    have a2 : j + (-(j : Int) - min (-(j : Int)) i).toNat = (-i).toNat + c := by omega
    rw [a1, a2, signed_pow, Int.pow_add, ← Int.mul_assoc, cmp_mul]
  rw [e3, compare_eq, compare_eq]
  exact decide_eq_decide.2 ⟨Eq.symm, Eq.symm⟩
theorem read_great {b : Nat} {s : Bool} {m : Nat} {i : Int} (h : double.read b = .number s m i) (hi : 0 < i) : 2 ^ 52 ≤ m := by
  unfold Format.read at h
  have l : double.leastPlace = -1074 := by decide
  have bb : double.binade = 2 ^ 52 := rfl
  rw [l, bb] at h
  simp only at h
  split at h
  · simp only [Datum.number.injEq] at h; omega
  · split at h
    · simp only [Datum.number.injEq] at h; omega
    · split at h <;> simp at h
theorem wh_some {n b : Nat} {v : Int} (hn : n ≤ 16) (h : wh n b = some v) : 0 ≤ v ∧ v < 2 ^ n ∧ Wd b v := by
  unfold wh at h
  split at h
  · rename_i hc
    simp only [Bool.and_eq_true] at hc
    obtain ⟨⟨h0, h1⟩, h2⟩ := hc
    have hv : whI b = v := by simpa using h
    obtain ⟨s, m, i, q, hr, hi, hw, ht, hlo, hhi, hs, hq, hX⟩ := rng_whole hn h0 h1
    have hp := pow_small hn
    have hf : Wd (FL (whI b)) (whI b) := wd_FL (by omega)
    have e2 : double.order b (FL (whI b)) = some (compare (signed s m i.toNat) (whI b * 2 ^ (-i).toNat)) := by unfold Format.order; rw [hr, ord_gen s m i hf]
    unfold eqW at h2
    rw [e2] at h2
    have h3 := cmp_eq h2
    have hle : i ≤ 0 := by
      by_cases hi0 : 0 < i
      · exfalso
        have g := read_great hr hi0
        have e : (-i).toNat = 0 := by omega
        rw [e, Nat.shiftLeft_eq] at hX
        have : 2 ^ 52 * 1 ≤ m * 2 ^ i.toNat := Nat.mul_le_mul g (Nat.two_pow_pos _)
        have hp' : (2 : Nat) ^ n ≤ 2 ^ 16 := Nat.pow_le_pow_right (by omega) hn
        omega
      · omega
    have e0 : i.toNat = 0 := by omega
    rw [e0] at h3
    rw [← hv]
    refine ⟨hlo, hhi, ?_⟩
    unfold Wd
    rw [hr]
    refine ⟨s, ?_, (-i).toNat, ?_⟩
    · intro hne
      cases s
      · exact (decide_eq_false (by omega)).symm
      · exact absurd (by rw [hw, hs rfl]; rfl) hne
    · have hm : m = (whI b).natAbs * 2 ^ (-i).toNat := by
        rw [← abs_mul, ← h3]
        unfold signed
        cases s <;> simp
      rw [← hm]
      congr 1
      omega
  · cases h
theorem wh_wd {n b : Nat} {v : Int} (hn : n ≤ 16) (h0 : 0 ≤ v) (h1 : v < 2 ^ n) (hb : Wd b v) : wh n b = some v := by
  have hp := pow_small hn
  have hg : ge0 b = true := by
    unfold ge0
    have : double.order b 0 = some (compare v 0) := order_wd hb wd_zero
    rw [this, compare_ge]; exact decide_eq_true h0
  have hl : ltN n b = true := by
    unfold ltN
    have : double.order b (FL (2 ^ n)) = some (compare v (2 ^ n)) := order_wd hb (wd_side hn)
    rw [this]; simp only [compare, compareOfLessAndEq]; rw [if_pos h1]; rfl
  have hw : whI b = v := by
    obtain ⟨s, hs, j, hj⟩ := hb
    unfold whI Datum.toInt
    rw [hj]
    simp only [Datum.integral]
    rw [cut_zero, show (-(j : Int)).toNat = 0 by omega, show (- -(j : Int)).toNat = j by omega, Nat.shiftLeft_zero, Nat.mul_div_cancel _ (Nat.two_pow_pos _)]
    simp only [Option.getD]
    have := signed_val hs 0 0
    simpa using this
  have he : eqW b = true := by
    unfold eqW
    have : double.order b (FL (whI b)) = some (compare v v) := by rw [hw]; exact order_wd hb (wd_FL (by omega))
    rw [this, compare_eq]; simp
  unfold wh
  rw [hg, hl, he, hw]; rfl
end Go.Proofs.Ytlfdlifmcabfjaa
