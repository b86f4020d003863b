/-
  Whole numbers as floats: what is said of 'float64' words that stand for whole numbers below 2^53: sums, differences and comparisons are exact. No program is named here.
-/
import Derived.Laws.ComplexArith
namespace Go.Proofs.Ytlfdlifmcabfjaa
open Ieee
set_option linter.unusedVariables false

/-- The word of a whole number. -/
def FL (n : Int) : Nat := FloatKind.nearest .f64 n
/-- A datum that stands for the whole number n, with the sign s (told of a nought alone). -/
def IsS (s : Bool) (d : Datum) (n : Int) : Prop := (n ≠ 0 → s = decide (n < 0)) ∧ ∃ j : Nat, d = .number s (n.natAbs * 2 ^ j) (-(j : Int))
def IsV (d : Datum) (n : Int) : Prop := ∃ s, IsS s d n
def IsN (d : Datum) (n : Int) : Prop := IsS (decide (n < 0)) d n
/-- A word that stands for n. -/
def Wd (b : Nat) (n : Int) : Prop := IsV (double.read b) n
theorem IsN.v {d : Datum} {n : Int} (h : IsN d n) : IsV d n := ⟨_, h⟩

theorem signed_val {s : Bool} {n : Int} (h : n ≠ 0 → s = decide (n < 0)) (j k : Nat) : signed s (n.natAbs * 2 ^ j) k = n * 2 ^ (j + k) := by
  unfold signed
  rw [Nat.shiftLeft_eq]
  have e : ((n.natAbs * 2 ^ j * 2 ^ k : Nat) : Int) = (n.natAbs : Int) * 2 ^ (j + k) := by
    rw [Int.natCast_mul, Int.natCast_mul, Int.pow_add, Int.natCast_pow, Int.natCast_pow, Int.mul_assoc]; rfl
  rw [e]
  by_cases h0 : n = 0
  · subst h0; cases s <;> simp
  · have := h h0
    by_cases hn : n < 0
    · have e2 : (n.natAbs : Int) = -n := by omega
      simp [this, hn, e2]; rw [Int.neg_mul, Int.neg_neg]
    · have e2 : (n.natAbs : Int) = n := by omega
      simp [this, hn, e2]

theorem cmp_mul (n m : Int) (c : Nat) : compare (n * 2 ^ c) (m * 2 ^ c) = compare n m := by
  have hc : (0 : Int) < 2 ^ c := Int.pow_pos (by omega)
  simp only [compare, compareOfLessAndEq]
  by_cases h : n < m
  · rw [if_pos h, if_pos (Int.mul_lt_mul_of_pos_right h hc)]
  · rw [if_neg h]
    by_cases e : n = m
    · subst e; rw [if_neg (by omega), if_pos rfl, if_pos rfl]
    · rw [if_neg e, if_neg, if_neg]
      · intro q; exact e (Int.eq_of_mul_eq_mul_right (by omega) q)
      · intro q; exact h (Int.lt_of_mul_lt_mul_right q (by omega))

theorem max_left (i j : Nat) : (-(i : Int) - min (-(i : Int)) (-(j : Int))).toNat = max i j - i := by omega
theorem max_right (i j : Nat) : (-(j : Int) - min (-(i : Int)) (-(j : Int))).toNat = max i j - j := by omega
theorem max_both (i j : Nat) : min (-(i : Int)) (-(j : Int)) = -((max i j : Nat) : Int) := by omega

theorem order_val {d e : Datum} {n m : Int} (hd : IsV d n) (he : IsV e m) : d.order e = some (compare n m) := by
  obtain ⟨s, hs, i, rfl⟩ := hd
  obtain ⟨t, ht, j, rfl⟩ := he
  simp only [Datum.order]
  rw [max_left, max_right, signed_val hs, signed_val ht, show i + (max i j - i) = max i j by omega, show j + (max i j - j) = max i j by omega, cmp_mul]

theorem abs_mul (n : Int) (c : Nat) : (n * 2 ^ c).natAbs = n.natAbs * 2 ^ c := by
  rw [Int.natAbs_mul, Int.natAbs_pow]; rfl
theorem sum_val {d e : Datum} {n m : Int} {s t : Bool} (hd : IsS s d n) (he : IsS t e m) : ∃ r, d.sum e = some r ∧ IsS (if n + m = 0 then s && t else decide (n + m < 0)) r (n + m) := by
  obtain ⟨hs, i, rfl⟩ := hd
  obtain ⟨ht, j, rfl⟩ := he
  refine ⟨_, rfl, fun h => by rw [if_neg h], max i j, ?_⟩
  rw [max_left, max_right, max_both, signed_val hs, signed_val ht, show i + (max i j - i) = max i j by omega, show j + (max i j - j) = max i j by omega, ← Int.add_mul, abs_mul]
  have hc : (0 : Int) < 2 ^ max i j := Int.pow_pos (by omega)
  have e0 : (n + m) * 2 ^ max i j = 0 ↔ n + m = 0 := ⟨fun h => by rcases Int.mul_eq_zero.1 h with q | q <;> omega, fun h => by rw [h, Int.zero_mul]⟩
  have e1 : (n + m) * 2 ^ max i j < 0 ↔ n + m < 0 := by
    rw [show (0 : Int) = 0 * 2 ^ max i j by rw [Int.zero_mul]]
    constructor
    · intro q; have := Int.lt_of_mul_lt_mul_right q (by omega); omega
    · intro q; exact Int.mul_lt_mul_of_pos_right (by omega) hc
  by_cases h : n + m = 0
  · rw [if_pos h, if_pos (e0.2 h)]
  · rw [if_neg h, if_neg (fun q => h (e0.1 q))]
    congr 1
    exact decide_eq_decide.2 e1
theorem opp_val {d : Datum} {n : Int} {s : Bool} (hd : IsS s d n) : IsS (!s) d.opposite (-n) := by
  obtain ⟨hs, i, rfl⟩ := hd
  refine ⟨fun h => ?_, i, by rw [Int.natAbs_neg]; rfl⟩
  rw [hs (by omega)]
  by_cases hn : n < 0
  · simp [hn]; omega
  · simp [hn]; omega

theorem log2_mul (c k : Nat) (h : 0 < c) : (c * 2 ^ k).log2 = c.log2 + k := by
  have h1 := Nat.log2_self_le (n := c) (by omega)
  have h2 := Nat.lt_log2_self (n := c)
  rw [Nat.log2_eq_iff (by have := Nat.mul_pos h (Nat.two_pow_pos k); omega)]
  refine ⟨?_, ?_⟩
  · rw [Nat.pow_add]; exact Nat.mul_le_mul_right _ h1
  · rw [show c.log2 + k + 1 = c.log2 + 1 + k by omega, Nat.pow_add]; exact Nat.mul_lt_mul_of_pos_right h2 (Nat.two_pow_pos _)
theorem log2_lt (c : Nat) (h0 : 0 < c) (h : c < 2 ^ 53) : c.log2 ≤ 52 := by
  have h1 := Nat.log2_self_le (n := c) (by omega)
  have : 2 ^ c.log2 < 2 ^ 53 := Nat.lt_of_le_of_lt h1 h
  have := (Nat.pow_lt_pow_iff_right (a := 2) (by omega)).1 this
  omega
theorem cut_whole (neg : Bool) (n d : Nat) (h : n % 2 ^ d = 0) (hd : d ≤ n.log2 + 2) : Toward.even.cut neg n d = n / 2 ^ d := by
  unfold Toward.cut
  simp only [Nat.shiftLeft_eq, Nat.one_mul, Nat.min_eq_left hd, h]
  have := Nat.two_pow_pos d
  have e : (2 ^ d == 2 * 0) = false := by simp
  simp [e]
theorem near_eq (neg : Bool) (c k : Nat) (h0 : 0 < c) (h : c < 2 ^ 53) : double.nearest neg (c * 2 ^ k) (-(k : Int)) = double.word neg ((c.log2 + 1022) * 2 ^ 52 + c * 2 ^ (52 - c.log2)) := by
  have hL := log2_lt c h0 h
  have hp := Nat.mul_pos h0 (Nat.two_pow_pos k)
  unfold Format.nearest
  rw [if_neg (by omega), log2_mul c k h0]
  have e1 : max (-(k : Int) + ((c.log2 + k : Nat) : Int) - (double.fractionBits : Int)) double.leastPlace = (c.log2 : Int) - 52 := by
    have a : double.leastPlace = -1074 := by decide
    have b : double.fractionBits = 52 := rfl
    rw [a, b]; omega
  simp only [e1]
  have e2 : ((c.log2 : Int) - 52 - double.leastPlace).toNat = c.log2 + 1022 := by
    have a : double.leastPlace = -1074 := by decide
    rw [a]; omega
  rw [e2]
  have e3 : Toward.even.cut neg ((c * 2 ^ k) <<< (-(k : Int) - ((c.log2 : Int) - 52)).toNat) ((c.log2 : Int) - 52 - -(k : Int)).toNat = c * 2 ^ (52 - c.log2) := by
    by_cases hk : k ≤ 52 - c.log2
    · have a : (-(k : Int) - ((c.log2 : Int) - 52)).toNat = 52 - c.log2 - k := by omega
      have b : ((c.log2 : Int) - 52 - -(k : Int)).toNat = 0 := by omega
      rw [a, b, Nat.shiftLeft_eq, Nat.mul_assoc, ← Nat.pow_add, show k + (52 - c.log2 - k) = 52 - c.log2 by omega, cut_whole _ _ _ (by simp [Nat.mod_one]) (by omega)]
      simp
    · have a : (-(k : Int) - ((c.log2 : Int) - 52)).toNat = 0 := by omega
      obtain ⟨q, hq⟩ : ∃ q, k = 52 - c.log2 + q := ⟨k - (52 - c.log2), by omega⟩
      have b : ((c.log2 : Int) - 52 - -(k : Int)).toNat = q := by omega
      have e : c * 2 ^ k = c * 2 ^ (52 - c.log2) * 2 ^ q := by rw [hq, Nat.pow_add, Nat.mul_assoc]
      rw [a, b, Nat.shiftLeft_eq, Nat.pow_zero, Nat.mul_one, cut_whole _ _ _ (by rw [e]; exact Nat.mul_mod_left _ _) (by rw [log2_mul c k h0]; omega), e, Nat.mul_div_cancel _ (Nat.two_pow_pos _)]
  rw [e3]
  have h1 : c * 2 ^ (52 - c.log2) < 2 ^ 53 := by
    have h2 := Nat.lt_log2_self (n := c)
    have := Nat.mul_lt_mul_of_pos_right h2 (Nat.two_pow_pos (52 - c.log2))
    rwa [← Nat.pow_add, show c.log2 + 1 + (52 - c.log2) = 53 by omega] at this
  congr 1
  have a : double.infRung = 2047 * 2 ^ 52 := by decide
  have b : double.binade = 2 ^ 52 := rfl
  rw [a, b]
  omega
theorem read_word (neg : Bool) (c : Nat) (h0 : 0 < c) (h : c < 2 ^ 53) : double.read (double.word neg ((c.log2 + 1022) * 2 ^ 52 + c * 2 ^ (52 - c.log2))) = .number neg (c * 2 ^ (52 - c.log2)) (-((52 - c.log2 : Nat) : Int)) := by
  have hL := log2_lt c h0 h
  have hlo : 2 ^ 52 ≤ c * 2 ^ (52 - c.log2) := by
    have h2 := Nat.log2_self_le (n := c) (by omega)
    have := Nat.mul_le_mul_right (2 ^ (52 - c.log2)) h2
    rwa [← Nat.pow_add, show c.log2 + (52 - c.log2) = 52 by omega] at this
  have hhi : c * 2 ^ (52 - c.log2) < 2 ^ 53 := by
    have h2 := Nat.lt_log2_self (n := c)
    have := Nat.mul_lt_mul_of_pos_right h2 (Nat.two_pow_pos (52 - c.log2))
    rwa [← Nat.pow_add, show c.log2 + 1 + (52 - c.log2) = 53 by omega] at this
  generalize c * 2 ^ (52 - c.log2) = M at hlo hhi ⊢
  have a : double.infRung = 2047 * 2 ^ 52 := by decide
  have b : double.binade = 2 ^ 52 := rfl
  have g : double.signWeight = 2 ^ 63 := rfl
  have l : double.leastPlace = -1074 := by decide
  unfold Format.read Format.word
  rw [a, b, g, l]
  have er : (if neg = true then 2 ^ 63 + ((c.log2 + 1022) * 2 ^ 52 + M) else (c.log2 + 1022) * 2 ^ 52 + M) % 2 ^ 63 = (c.log2 + 1022) * 2 ^ 52 + M := by
    cases neg <;> simp <;> omega
  have es : ((if neg = true then 2 ^ 63 + ((c.log2 + 1022) * 2 ^ 52 + M) else (c.log2 + 1022) * 2 ^ 52 + M) / 2 ^ 63 % 2 == 1) = neg := by
    cases neg
    · have : ((c.log2 + 1022) * 2 ^ 52 + M) / 2 ^ 63 = 0 := Nat.div_eq_of_lt (by omega)
      simp [this]
    · have : (2 ^ 63 + ((c.log2 + 1022) * 2 ^ 52 + M)) / 2 ^ 63 = 1 := by omega
      simp [this]
  simp only [er, es]
  rw [if_neg (by omega), if_pos (by omega)]
  congr 1
  · omega
  · omega
theorem read_zero (neg : Bool) : double.read (double.word neg 0) = .number neg 0 (-(1074 : Nat) : Int) := by cases neg <;> decide
theorem write_val {s : Bool} {d : Datum} {n : Int} (h : IsS s d n) (hn : n.natAbs < 2 ^ 53) : IsS s (double.read (double.write d)) n ∧ double.write d = double.nearest s n.natAbs 0 := by
  obtain ⟨hs, j, rfl⟩ := h
  by_cases h0 : n = 0
  · subst h0
    refine ⟨⟨hs, 1074, ?_⟩, ?_⟩
    · simp only [Format.write, Int.natAbs_zero, Nat.zero_mul]
      have : double.nearest s 0 (-(j : Int)) = double.word s 0 := by unfold Format.nearest; rw [if_pos rfl]
      rw [this, read_zero]
    · simp only [Format.write, Int.natAbs_zero, Nat.zero_mul]
      unfold Format.nearest; rw [if_pos rfl, if_pos rfl]
  · have hc : 0 < n.natAbs := by omega
    have e := near_eq s n.natAbs j hc hn
    have e0 := near_eq s n.natAbs 0 hc hn
    rw [Nat.pow_zero, Nat.mul_one] at e0
    refine ⟨⟨hs, 52 - n.natAbs.log2, ?_⟩, ?_⟩
    · simp only [Format.write]
      rw [e, read_word s _ hc hn]
    · simp only [Format.write]
      rw [e]; exact e0.symm
theorem FL_read {n : Int} (hn : n.natAbs < 2 ^ 53) : IsN (double.read (FL n)) n := by
  have h : IsN (.number (decide (n < 0)) (n.natAbs * 2 ^ 0) (-((0 : Nat) : Int))) n := ⟨fun _ => rfl, 0, rfl⟩
  have := (write_val h hn).1
  rw [Nat.pow_zero, Nat.mul_one] at this
  exact this
theorem write_N {d : Datum} {n : Int} (h : IsN d n) (hn : n.natAbs < 2 ^ 53) : double.write d = FL n := (write_val h hn).2
theorem wd_FL {n : Int} (hn : n.natAbs < 2 ^ 53) : Wd (FL n) n := (FL_read hn).v

theorem add_FL {n m : Int} (hn : n.natAbs < 2 ^ 52) (hm : m.natAbs < 2 ^ 52) : floatBits .add .f64 (FL n) (FL m) = some (FL (n + m)) := by
  obtain ⟨r, h1, h2⟩ := sum_val (FL_read (n := n) (by omega)) (FL_read (n := m) (by omega))
  show ((double.read (FL n)).sum (double.read (FL m))).map double.write = _
  rw [h1]
  have h3 : IsN r (n + m) := by
    have : (if n + m = 0 then decide (n < 0) && decide (m < 0) else decide (n + m < 0)) = decide (n + m < 0) := by
      by_cases h : n + m = 0
      · rw [if_pos h]; by_cases a : n < 0 <;> by_cases b : m < 0 <;> simp [a, b] <;> omega
      · rw [if_neg h]
    rw [this] at h2; exact h2
  show some (double.write r) = _
  rw [write_N h3 (by omega)]
theorem sub_FL {n m : Int} (hn : n.natAbs < 2 ^ 52) (hm : m.natAbs < 2 ^ 52) : floatBits .sub .f64 (FL n) (FL m) = some (FL (n - m)) := by
  obtain ⟨r, h1, h2⟩ := sum_val (FL_read (n := n) (by omega)) (opp_val (FL_read (n := m) (by omega)))
  show ((double.read (FL n)).sum (double.read (FL m)).opposite).map double.write = _
  rw [h1]
  have h3 : IsN r (n - m) := by
    have : (if n + -m = 0 then decide (n < 0) && !decide (m < 0) else decide (n + -m < 0)) = decide (n - m < 0) := by
      by_cases h : n + -m = 0
      · rw [if_pos h]; by_cases a : n < 0 <;> by_cases b : m < 0 <;> simp [a, b] <;> omega
      · rw [if_neg h]; rfl
    rw [this] at h2; exact h2
  show some (double.write r) = _
  rw [write_N h3 (by omega)]
theorem sub_wd {a b : Nat} {n m : Int} (ha : Wd a n) (hb : Wd b m) (hn : n.natAbs < 2 ^ 52) (hm : m.natAbs < 2 ^ 52) : ∃ c, floatBits .sub .f64 a b = some c ∧ Wd c (n - m) := by
  obtain ⟨s, ha⟩ := ha
  obtain ⟨t, hb⟩ := hb
  obtain ⟨r, h1, h2⟩ := sum_val ha (opp_val hb)
  refine ⟨double.write r, ?_, _, (write_val h2 (by omega)).1⟩
  show ((double.read a).sum (double.read b).opposite).map double.write = _
  rw [h1]; rfl
theorem order_wd {a b : Nat} {n m : Int} (ha : Wd a n) (hb : Wd b m) : FloatKind.f64.format.order a b = some (compare n m) := order_val ha hb
theorem mul_FL {n m : Int} (hn : 0 ≤ n) (hm : 0 ≤ m) (h : (n * m).natAbs < 2 ^ 53) (h1 : n.natAbs < 2 ^ 53) (h2 : m.natAbs < 2 ^ 53) : floatBits .mul .f64 (FL n) (FL m) = some (FL (n * m)) := by
  obtain ⟨_, i, hi⟩ := FL_read h1
  obtain ⟨_, j, hj⟩ := FL_read h2
  show ((double.read (FL n)).product (double.read (FL m))).map double.write = _
  rw [hi, hj]
  show some (double.write (.number _ _ _)) = _
  have h3 : IsN (.number (decide (n < 0) ^^ decide (m < 0)) (n.natAbs * 2 ^ i * (m.natAbs * 2 ^ j)) (-(i : Int) + -(j : Int))) (n * m) := by
    have q := Int.mul_nonneg hn hm
    have e : (decide (n < 0) ^^ decide (m < 0)) = decide (n * m < 0) := by
      rw [decide_eq_false (show ¬ n < 0 by omega), decide_eq_false (show ¬ m < 0 by omega), decide_eq_false (show ¬ n * m < 0 by omega)]; rfl
    rw [e]
    refine ⟨fun _ => rfl, i + j, ?_⟩
    congr 1
    · rw [Int.natAbs_mul, Nat.pow_add, Nat.mul_assoc, Nat.mul_assoc, Nat.mul_left_comm (2 ^ i)]
    · omega
  rw [write_N h3 h]
theorem FL_lt (n : Int) : FL n < 2 ^ 64 := Format.write_lt double (.number (n < 0) n.natAbs 0)

end Go.Proofs.Ytlfdlifmcabfjaa
