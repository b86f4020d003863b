/-
  Plain arithmetic on words of 32 bits: no program is named here. The bits of a word from its first one ('tb') and from its last one ('lb'), the words of the loops, and how they hang together. It rests on nothing but the model's law on bitwise operations of uint32.
-/
import Derived.Laws.BitsAllLaws
import Derived.RowKit
namespace Go.Proofs.YtejcckkekjkmlaaDoor
open Go.RowKit

/-- The bit i of a word, counted from its first. -/
def tb (a i : Nat) : Nat := a / 2 ^ (31 - i) % 2
/-- The bit i of a word, counted from its last. -/
def lb (a i : Nat) : Nat := a / 2 ^ i % 2
/-- The word whose first k bits are ones. -/
def hiw (k : Nat) : Nat := 4294967296 - 2 ^ (32 - k)

theorem tb_lt (a i : Nat) : tb a i < 2 := Nat.mod_lt _ (by decide)
theorem lb_lt (a i : Nat) : lb a i < 2 := Nat.mod_lt _ (by decide)
theorem tb_lb (a i : Nat) (h : i ≤ 31) : tb a (31 - i) = lb a i := by
  unfold tb lb; rw [show 31 - (31 - i) = i by omega]
theorem hiw_lt (k : Nat) : hiw k < 4294967296 := by
  unfold hiw
  have : 0 < 2 ^ (32 - k) := Nat.pow_pos (by decide)
  omega
theorem two_lt (k : Nat) (h : k ≤ 31) : 2 ^ k < 4294967296 := by
  have : 2 ^ k ≤ 2 ^ 31 := Nat.pow_le_pow_right (by decide) h
  omega
theorem hiw_succ : ∀ k, k < 32 → hiw k ||| 2 ^ (31 - k) = hiw (k + 1) := by decide +kernel

theorem pow_cast (k : Nat) : ((2 ^ k : Nat) : Int) = (2 : Int) ^ k := by simp
theorem div_cast (a k : Nat) : ((a / 2 ^ k : Nat) : Int) = (a : Int) / 2 ^ k := by simp
theorem pow_mod (k : Nat) (h : k ≤ 31) : (2 : Int) ^ k % 4294967296 = ((2 ^ k : Nat) : Int) := by
  have := two_lt k h
  rw [← pow_cast]
  exact Int.emod_eq_of_lt (Int.natCast_nonneg _) (by rw [show (4294967296 : Int) = ((4294967296 : Nat) : Int) from rfl]; exact Int.ofNat_lt.2 this)

theorem and_one (a k : Nat) (ha : a < 4294967296) : bits .and .u32 ((a : Int) / 2 ^ k) 1 = (lb a k : Int) := by
  rw [← div_cast]
  have h := u32_and_nat (a / 2 ^ k) 1 (Nat.lt_of_le_of_lt (Nat.div_le_self _ _) ha) (by decide)
  rw [nat_mask1] at h
  exact h
theorem and_top (a k : Nat) (ha : a < 4294967296) : bits .and .u32 ((a : Int) / 2 ^ (31 - k)) 1 = (tb a k : Int) := and_one a (31 - k) ha
theorem and_four (a k : Nat) (ha : a < 4294967296) : bits .and .u32 ((a : Int) / 2 ^ k) 15 = ((a / 2 ^ k % 16 : Nat) : Int) := by
  rw [← div_cast]
  have h := u32_and_nat (a / 2 ^ k) 15 (Nat.lt_of_le_of_lt (Nat.div_le_self _ _) ha) (by decide)
  rw [nat_mask4] at h
  exact h
theorem or_hiw (k : Nat) (h : k < 32) : bits .or .u32 (hiw k : Int) ((2 ^ (31 - k) : Nat) : Int) = (hiw (k + 1) : Int) := by
  rw [u32_or_nat _ _ (hiw_lt k) (two_lt _ (by omega)), hiw_succ k h]
theorem or_hiw2 (k : Nat) (h : k < 32) : bits .or .u32 (hiw k : Int) ((2 : Int) ^ (31 - k)) = (hiw (k + 1) : Int) := by
  rw [← pow_cast, or_hiw k h]
theorem or_hiw' (k : Nat) (h : k < 32) : bits .or .u32 (hiw k : Int) ((2 : Int) ^ (31 - k) % 4294967296) = (hiw (k + 1) : Int) := by
  rw [pow_mod _ (by omega), or_hiw k h]
/-- A word with its first n bits alone. -/
def kp (a n : Nat) : Nat := a &&& hiw n
theorem and_hiw (a n : Nat) (ha : a < 4294967296) : bits .and .u32 (a : Int) (hiw n : Int) = (kp a n : Int) := u32_and_nat _ _ ha (hiw_lt n)
theorem kp_lt (a n : Nat) (ha : a < 4294967296) : kp a n < 4294967296 := Nat.lt_of_le_of_lt Nat.and_le_left ha
theorem kp_again (a n : Nat) : kp (kp a n) n = kp a n := by unfold kp; rw [Nat.and_assoc, Nat.and_self]
theorem wrap64_nat (n : Nat) (h : n < 4294967296) : wrap64 (n : Int) = (n : Int) := by
  unfold wrap64; omega

/-- How many first bits are alike, from the bit i on, f bits being left. -/
def sm (a b : Nat) : Nat → Nat → Nat
  | 0, i => i
  | f + 1, i => if tb a i = tb b i then sm a b f (i + 1) else i
theorem sm_hit (a b k : Nat) (h : k < 32) (e : tb a k = tb b k) : sm a b (32 - (k + 1)) (k + 1) = sm a b (32 - k) k := by
  rw [show 32 - k = (32 - (k + 1)) + 1 by omega, sm, if_pos e]
theorem sm_out (a b k : Nat) (h : k < 32) (e : tb a k ≠ tb b k) : sm a b (32 - k) k = k := by
  rw [show 32 - k = (32 - (k + 1)) + 1 by omega, sm, if_neg e]

theorem sm_comm (a b : Nat) : ∀ f i, sm a b f i = sm b a f i
  | 0, _ => rfl
  | f + 1, i => by
    simp only [sm]
    by_cases h : tb a i = tb b i
    · rw [if_pos h, if_pos h.symm, sm_comm a b f (i + 1)]
    · rw [if_neg h, if_neg (Ne.symm h)]
theorem sm_self (a : Nat) : ∀ f i, sm a a f i = i + f
  | 0, _ => rfl
  | f + 1, i => by
    simp only [sm, if_true]
    rw [sm_self a f (i + 1)]
    omega

/-- How many last bits are 0, from the bit i (of the last) on, f bits being left. -/
def lo (a : Nat) : Nat → Nat → Nat
  | 0, i => i
  | f + 1, i => if lb a i = 1 then i else lo a f (i + 1)
theorem lo_hit (a k : Nat) (h : k < 32) (e : lb a k ≠ 1) : lo a (32 - (k + 1)) (k + 1) = lo a (32 - k) k := by
  rw [show 32 - k = (32 - (k + 1)) + 1 by omega, lo, if_neg e]
theorem lo_out (a k : Nat) (h : k < 32) (e : lb a k = 1) : lo a (32 - k) k = k := by
  rw [show 32 - k = (32 - (k + 1)) + 1 by omega, lo, if_pos e]

/-- How many of the last k bits are 1. -/
def ones (a : Nat) : Nat → Nat
  | 0 => 0
  | k + 1 => ones a k + lb a k
theorem ones_le (a : Nat) : ∀ k, ones a k ≤ k
  | 0 => Nat.le_refl _
  | k + 1 => by have := ones_le a k; have := lb_lt a k; simp only [ones]; omega
/-- The table of the ones of four bits. -/
def tab : List Int := [0, 1, 1, 2, 1, 2, 2, 3, 1, 2, 2, 3, 2, 3, 3, 4]
theorem tab_at : ∀ x, x < 16 → tab[x]?.getD 0 = ((x % 2 + x / 2 % 2 + x / 4 % 2 + x / 8 % 2 : Nat) : Int) := by decide +kernel
theorem tab_le : ∀ x, x < 16 → 0 ≤ tab[x]?.getD 0 ∧ tab[x]?.getD 0 ≤ 4 := by decide +kernel
theorem lb_four (a k j : Nat) (h : j < 4) : a / 2 ^ (4 * k) % 16 / 2 ^ j % 2 = lb a (4 * k + j) := by
  unfold lb
  rw [Nat.pow_add, ← Nat.div_div_eq_div_mul]
  generalize a / 2 ^ (4 * k) = y
  obtain rfl | rfl | rfl | rfl : j = 0 ∨ j = 1 ∨ j = 2 ∨ j = 3 := by omega
  all_goals omega
theorem ones_four (a k : Nat) : (ones a (4 * k) : Int) + tab[a / 2 ^ (4 * k) % 16]?.getD 0 = (ones a (4 * (k + 1)) : Int) := by
  rw [tab_at _ (Nat.mod_lt _ (by decide))]
  have h0 := lb_four a k 0 (by decide)
  have h1 := lb_four a k 1 (by decide)
  have h2 := lb_four a k 2 (by decide)
  have h3 := lb_four a k 3 (by decide)
  simp only [Nat.pow_zero, Nat.div_one, Nat.pow_one, show (2 ^ 2 : Nat) = 4 by decide, show (2 ^ 3 : Nat) = 8 by decide, Nat.add_zero] at h0 h1 h2 h3
  rw [h0, h1, h2, h3]
  rw [show 4 * (k + 1) = 4 * k + 1 + 1 + 1 + 1 by omega]
  simp only [ones]
  omega

/-- The word whose first bits are the last k bits, turned round. -/
def turned (a : Nat) : Nat → Nat
  | 0 => 0
  | k + 1 => turned a k ||| lb a k * 2 ^ (31 - k)
theorem mul_lt (a k : Nat) (h : k ≤ 31) : lb a k * 2 ^ (31 - k) < 4294967296 := by
  have h1 := lb_lt a k
  have h2 := two_lt (31 - k) (by omega)
  obtain h | h : lb a k = 0 ∨ lb a k = 1 := by omega
  all_goals rw [h]; omega
theorem turned_lt (a : Nat) : ∀ k, k ≤ 32 → turned a k < 4294967296
  | 0, _ => by simp [turned]
  | k + 1, h => by
    have h1 := turned_lt a k (by omega)
    have h2 := mul_lt a k (by omega)
    simp only [turned]
    exact Nat.or_lt_two_pow (n := 32) (by simpa using h1) (by simpa using h2)
theorem or_turned_one (a k : Nat) (h : k < 32) (e : lb a k = 1) : bits .or .u32 (turned a k : Int) ((2 ^ (31 - k) : Nat) : Int) = (turned a (k + 1) : Int) := by
  rw [u32_or_nat _ _ (turned_lt a k (by omega)) (two_lt _ (by omega))]
  simp [turned, e]
theorem or_turned_one2 (a k : Nat) (h : k < 32) (e : lb a k = 1) : bits .or .u32 (turned a k : Int) ((2 : Int) ^ (31 - k)) = (turned a (k + 1) : Int) := by
  rw [← pow_cast, or_turned_one a k h e]
theorem turned_zero (a k : Nat) (e : lb a k ≠ 1) : turned a (k + 1) = turned a k := by
  have := lb_lt a k
  have : lb a k = 0 := by omega
  simp [turned, this]
theorem or_turned (a k : Nat) (h : k < 32) : bits .or .u32 (turned a k : Int) (((lb a k : Int) * 2 ^ (31 - k)) % 4294967296) = (turned a (k + 1) : Int) := by
  have h2 := mul_lt a k (by omega)
  have e : ((lb a k : Int) * 2 ^ (31 - k)) = ((lb a k * 2 ^ (31 - k) : Nat) : Int) := by simp
  rw [e, show ((lb a k * 2 ^ (31 - k) : Nat) : Int) % 4294967296 = ((lb a k * 2 ^ (31 - k) : Nat) : Int) by omega]
  rw [u32_or_nat _ _ (turned_lt a k (by omega)) h2]
  simp [turned]
end Go.Proofs.YtejcckkekjkmlaaDoor
