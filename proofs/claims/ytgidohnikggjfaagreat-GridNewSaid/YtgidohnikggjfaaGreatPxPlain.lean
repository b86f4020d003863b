/-
  Plain arithmetic on prefixes of words of 32 bits: no program is named here.
-/
import Derived.Laws.BitsAllLaws
import Derived.RowKit
namespace Go.Proofs.YtgidohnikggjfaaGreat.Pf
open Go.RowKit
set_option linter.unusedVariables false
set_option linter.unusedSimpArgs false

/-- How many words begin with the same n bits. -/
def bk (n : Nat) : Nat := 2 ^ (32 - n)
/-- A word's first n bits, zeros behind. -/
def ct (a n : Nat) : Nat := a / bk n * bk n
/-- The bit i of a word, counted from its first. -/
def tb (a i : Nat) : Nat := a / 2 ^ (31 - i) % 2

theorem bk_pos (n : Nat) : 0 < bk n := Nat.pow_pos (by decide)
theorem bk_le (n : Nat) : bk n ≤ 4294967296 := by
  have : bk n ≤ 2 ^ 32 := Nat.pow_le_pow_right (by decide) (by omega)
  simpa using this
theorem bk_zero : bk 0 = 4294967296 := by decide
theorem bk_32 : bk 32 = 1 := by decide
theorem bk_succ (n : Nat) (h : n < 32) : bk n = 2 * bk (n + 1) := by
  unfold bk
  rw [show 32 - n = (32 - (n + 1)) + 1 by omega, Nat.pow_succ]; omega
theorem bk_31 (i : Nat) (h : i < 32) : 2 ^ (31 - i) = bk (i + 1) := by unfold bk; rw [show 32 - (i + 1) = 31 - i by omega]
theorem bk_dvd (m n : Nat) (h : m ≤ n) : bk n ∣ bk m := Nat.pow_dvd_pow 2 (by omega)
theorem tb_lt (a i : Nat) : tb a i < 2 := Nat.mod_lt _ (by decide)
theorem ct_le (a n : Nat) : ct a n ≤ a := Nat.div_mul_le_self _ _
theorem ct_add (a n : Nat) : ct a n + a % bk n = a := by
  unfold ct; have := Nat.div_add_mod a (bk n); rw [Nat.mul_comm] at this; exact this
theorem ct_mod (a n : Nat) : ct a n % bk n = 0 := Nat.mul_mod_left _ _
theorem ct_self (a n : Nat) (h : a % bk n = 0) : ct a n = a := by have := ct_add a n; omega
theorem ct_iff (a n : Nat) : ct a n = a ↔ a % bk n = 0 := ⟨fun h => by rw [← h]; exact ct_mod a n, ct_self a n⟩
theorem mod_step (a k : Nat) (h : k < 32) : a % bk k = a % bk (k + 1) + bk (k + 1) * tb a k := by
  unfold tb
  rw [bk_31 k h, bk_succ k h, Nat.mul_comm 2, Nat.mod_mul]
theorem ct_step (a k : Nat) (h : k < 32) : ct a (k + 1) = ct a k + bk (k + 1) * tb a k := by
  have h1 := ct_add a k
  have h2 := ct_add a (k + 1)
  have h3 := mod_step a k h
  omega
theorem ct_zero (a : Nat) (h : a < 4294967296) : ct a 0 = 0 := by
  unfold ct; rw [bk_zero, Nat.div_eq_of_lt h, Nat.zero_mul]
theorem ct_32 (a : Nat) : ct a 32 = a := by unfold ct; rw [bk_32]; simp
/-- The shorter cut of a cut is the shorter cut. -/
theorem ct_ct (a m n : Nat) (h : m ≤ n) : ct (ct a n) m = ct a m := by
  unfold ct
  obtain ⟨c, hc⟩ := bk_dvd m n h
  rw [hc, ← Nat.div_div_eq_div_mul, ← Nat.div_div_eq_div_mul, Nat.mul_div_cancel _ (bk_pos n)]
theorem ct_mono_eq (a b m n : Nat) (h : m ≤ n) (e : ct a n = ct b n) : ct a m = ct b m := by
  rw [← ct_ct a m n h, e, ct_ct b m n h]
theorem ct_lt (a n : Nat) (h : a < 4294967296) : ct a n < 4294967296 := Nat.lt_of_le_of_lt (ct_le a n) h
theorem mod_longer (a m n : Nat) (h : m ≤ n) (e : a % bk m = 0) : a % bk n = 0 := by
  have h1 : bk m ∣ a := Nat.dvd_of_mod_eq_zero e
  exact Nat.mod_eq_zero_of_dvd (Nat.dvd_trans (bk_dvd m n h) h1)

/-! words -/
theorem shr_all : ∀ n, n < 33 → 4294967295 / 2 ^ n = bk n - 1 := by decide +kernel
theorem shr_int (n : Nat) (h : n ≤ 32) : (4294967295 : Int) / 2 ^ n = ((bk n - 1 : Nat) : Int) := by
  rw [← shr_all n (by omega)]; simp
theorem lw_lt (n : Nat) : bk n - 1 < 4294967296 := by have := bk_le n; have := bk_pos n; omega
theorem and_lw (a n : Nat) (ha : a < 4294967296) : bits .and .u32 (a : Int) ((bk n - 1 : Nat) : Int) = ((a % bk n : Nat) : Int) := by
  rw [u32_and_nat _ _ ha (lw_lt n)]; unfold bk; rw [Nat.and_two_pow_sub_one_eq_mod]
theorem or_lw (a n : Nat) (ha : a < 4294967296) (h : a % bk n = 0) : bits .or .u32 (a : Int) ((bk n - 1 : Nat) : Int) = ((a + (bk n - 1) : Nat) : Int) := by
  rw [u32_or_nat _ _ ha (lw_lt n), nat_join (32 - n) a (bk n - 1) h (by have := bk_pos n; show _ < bk n; omega)]
theorem andNot_nat (a k : Nat) (ha : a < 2 ^ 32) (hk : k ≤ 32) : a &&& (2 ^ 32 - 2 ^ k) = a / 2 ^ k * 2 ^ k := by
  apply Nat.eq_of_testBit_eq
  intro i
  have h1 : 2 ^ 32 - 2 ^ k = 2 ^ 32 - ((2 ^ k - 1) + 1) := by have : 0 < 2 ^ k := Nat.pow_pos (by decide); omega
  have h2 : 2 ^ k - 1 < 2 ^ 32 := by have := Nat.pow_le_pow_right (n := 2) (by decide) hk; have : 0 < 2 ^ k := Nat.pow_pos (by decide); omega
  rw [Nat.testBit_and, h1, Nat.testBit_two_pow_sub_succ h2, Nat.testBit_two_pow_sub_one, ← Nat.shiftRight_eq_div_pow, ← Nat.shiftLeft_eq, Nat.testBit_shiftLeft, Nat.testBit_shiftRight]
  by_cases hi : i < k
  · simp [hi]; omega
  · by_cases h3 : i < 32
    · simp [hi, h3, show k ≤ i by omega, show k + (i - k) = i by omega]
    · have : a.testBit i = false := Nat.testBit_lt_two_pow (Nat.lt_of_lt_of_le ha (Nat.pow_le_pow_right (by decide) (by omega)))
      simp [h3, show k ≤ i by omega, show k + (i - k) = i by omega, this]
theorem andNot_lw (a n : Nat) (ha : a < 4294967296) : bits .andNot .u32 (a : Int) ((bk n - 1 : Nat) : Int) = (ct a n : Int) := by
  rw [u32_andNot_nat _ _ ha (lw_lt n)]
  have h : 4294967295 - (bk n - 1) = 2 ^ 32 - 2 ^ (32 - n) := by have := bk_pos n; have := bk_le n; show 4294967295 - (bk n - 1) = 4294967296 - bk n; omega
  rw [h, andNot_nat a (32 - n) (by simpa using ha) (by omega)]
  rfl
theorem last_all : ∀ n, n < 32 → (bk n - 1) &&& (4294967295 - (bk (n + 1) - 1)) = bk (n + 1) := by decide +kernel
theorem last_int (n : Nat) (h : n < 32) : bits .andNot .u32 ((bk n - 1 : Nat) : Int) ((bk (n + 1) - 1 : Nat) : Int) = (bk (n + 1) : Int) := by
  rw [u32_andNot_nat _ _ (lw_lt n) (lw_lt (n + 1)), last_all n h]
theorem bk_lt (n : Nat) (h : n < 32) : bk (n + 1) < 4294967296 := by have := bk_succ n h; have := bk_le n; have := bk_pos (n + 1); omega
theorem or_last (a n : Nat) (ha : a < 4294967296) (h : a % bk n = 0) (hn : n < 32) : bits .or .u32 (a : Int) (bk (n + 1) : Int) = ((a + bk (n + 1) : Nat) : Int) := by
  rw [u32_or_nat _ _ ha (bk_lt n hn), nat_join (32 - n) a (bk (n + 1)) h (by show _ < bk n; have := bk_succ n hn; have := bk_pos (n + 1); omega)]
/-- A prefix's greatest address is an address. -/
theorem top_lt (a n : Nat) (ha : a < 4294967296) (h : a % bk n = 0) (hn : n ≤ 32) : a + (bk n - 1) < 4294967296 := by
  obtain ⟨c, rfl⟩ := Nat.dvd_of_mod_eq_zero h
  obtain ⟨d, hd⟩ := bk_dvd 0 n (by omega)
  rw [bk_zero] at hd
  have hp := bk_pos n
  have : c < d := by
    rcases Nat.lt_or_ge c d with h' | h'
    · exact h'
    · have := Nat.mul_le_mul_left (bk n) h'; omega
  have := Nat.mul_le_mul_left (bk n) (show c + 1 ≤ d by omega)
  rw [Nat.mul_add] at this
  omega
theorem pow_cast (k : Nat) : ((2 ^ k : Nat) : Int) = (2 : Int) ^ k := by simp
theorem one_int (i : Nat) (h : i < 32) : (2 : Int) ^ (31 - i) % 4294967296 = (bk (i + 1) : Int) := by
  rw [← pow_cast, bk_31 i h]
  exact Int.emod_eq_of_lt (Int.natCast_nonneg _) (by have := bk_lt i h; omega)
theorem wrap64_nat (n : Nat) (h : n < 4294967296) : wrap64 (n : Int) = (n : Int) := by
  unfold wrap64; omega
theorem bit_int (a i : Nat) : ((a : Int) / 2 ^ (31 - i)) % 2 = (tb a i : Int) := by unfold tb; simp

/-! what a prefix is -/
/-- May it be? 20: the length; 21: a bit beyond; 0: it may. -/
def chk (a : Nat) (n : Int) : Int := if n < 0 ∨ 32 < n then 20 else if a % bk n.toNat = 0 then 0 else 21
theorem chk_out (a : Nat) (n : Int) (h : n < 0 ∨ 32 < n) : chk a n = 20 := by unfold chk; rw [if_pos h]
theorem chk_in (a n : Nat) (h : n ≤ 32) (h' : a % bk n = 0) : chk a (n : Int) = 0 := by
  unfold chk; rw [if_neg (by omega), if_pos (by simpa using h')]
theorem chk_bits (a n : Nat) (h : n ≤ 32) (h' : a % bk n ≠ 0) : chk a (n : Int) = 21 := by
  unfold chk; rw [if_neg (by omega), if_neg (by simpa using h')]
theorem chk_ok {a : Nat} {n : Int} (h : chk a n = 0) : ∃ m : Nat, n = (m : Int) ∧ m ≤ 32 ∧ a % bk m = 0 := by
  unfold chk at h
  by_cases h1 : n < 0 ∨ 32 < n
  · rw [if_pos h1] at h; omega
  · rw [if_neg h1] at h
    refine ⟨n.toNat, by omega, by omega, ?_⟩
    by_cases h2 : a % bk n.toNat = 0
    · exact h2
    · rw [if_neg h2] at h; omega
theorem chk_range (a : Nat) (n : Int) : 0 ≤ chk a n ∧ chk a n ≤ 21 := by
  unfold chk; split
  · omega
  · split <;> omega
/-- Does the prefix hold the address? -/
def hasB (a : Nat) (n : Int) (x : Nat) : Bool := decide (chk a n = 0 ∧ ct x n.toNat = a)
theorem hasB_no {a : Nat} {n : Int} {x : Nat} (h : chk a n ≠ 0) : hasB a n x = false := by simp [hasB, h]
theorem hasB_in {a n x : Nat} (h : chk a (n : Int) = 0) : hasB a (n : Int) x = decide (ct x n = a) := by simp [hasB, h]
/-- Does it lie within the other? -/
def witB (a : Nat) (n : Int) (b : Nat) (m : Int) : Bool := decide (chk a n = 0 ∧ m ≤ n ∧ hasB b m a = true)
/-- Ahead, the same, behind. -/
def cmpI (a b : Int) : Int := if a < b then -1 else if b < a then 1 else 0
def cmpP (a : Nat) (n : Int) (b : Nat) (m : Int) : Int := if cmpI a b = 0 then cmpI n m else cmpI a b
/-! what the calls answer, as numbers -/
def oA (a : Nat) (n : Int) : Nat := if n < 0 ∨ 32 < n then 0 else ct a n.toNat
def oN (n : Int) : Int := if n < 0 ∨ 32 < n then 0 else n
def oE (n : Int) : Int := if n < 0 ∨ 32 < n then 20 else 0
def rL (a : Nat) (n : Int) : Nat := if chk a n = 0 then a else 0
def rH (a : Nat) (n : Int) : Nat := if chk a n = 0 then a + (bk n.toNat - 1) else 0
def hE (a : Nat) (n : Int) : Int := if chk a n = 0 then (if n = 32 then 22 else 0) else chk a n
def hA (a : Nat) (n : Int) : Nat := if hE a n = 0 then a else 0
def hB (a : Nat) (n : Int) : Nat := if hE a n = 0 then a + bk (n.toNat + 1) else 0
def hN (a : Nat) (n : Int) : Int := if hE a n = 0 then n + 1 else 0
theorem rH_lt (a : Nat) (n : Int) (ha : a < 4294967296) : rH a n < 4294967296 := by
  unfold rH
  split
  · rename_i h
    obtain ⟨m, rfl, hm, h0⟩ := chk_ok h
    exact top_lt a m ha h0 hm
  · omega
/-! how many first bits two words share -/
set_option maxRecDepth 100000 in
def tab8 : ByteArray := { data := #[0, 1, 2, 2, 3, 3, 3, 3, 4, 4, 4, 4, 4, 4, 4, 4, 5, 5, 5, 5, 5, 5, 5, 5, 5, 5, 5, 5, 5, 5, 5, 5, 6, 6, 6, 6, 6, 6, 6, 6, 6, 6, 6, 6, 6, 6, 6, 6, 6, 6, 6, 6, 6, 6, 6, 6, 6, 6, 6, 6, 6, 6, 6, 6, 7, 7, 7, 7, 7, 7, 7, 7, 7, 7, 7, 7, 7, 7, 7, 7, 7, 7, 7, 7, 7, 7, 7, 7, 7, 7, 7, 7, 7, 7, 7, 7, 7, 7, 7, 7, 7, 7, 7, 7, 7, 7, 7, 7, 7, 7, 7, 7, 7, 7, 7, 7, 7, 7, 7, 7, 7, 7, 7, 7, 7, 7, 7, 7, 8, 8, 8, 8, 8, 8, 8, 8, 8, 8, 8, 8, 8, 8, 8, 8, 8, 8, 8, 8, 8, 8, 8, 8, 8, 8, 8, 8, 8, 8, 8, 8, 8, 8, 8, 8, 8, 8, 8, 8, 8, 8, 8, 8, 8, 8, 8, 8, 8, 8, 8, 8, 8, 8, 8, 8, 8, 8, 8, 8, 8, 8, 8, 8, 8, 8, 8, 8, 8, 8, 8, 8, 8, 8, 8, 8, 8, 8, 8, 8, 8, 8, 8, 8, 8, 8, 8, 8, 8, 8, 8, 8, 8, 8, 8, 8, 8, 8, 8, 8, 8, 8, 8, 8, 8, 8, 8, 8, 8, 8, 8, 8, 8, 8, 8, 8, 8, 8, 8, 8, 8, 8, 8, 8, 8, 8, 8, 8] }
def bl (x : Nat) : Nat := if x = 0 then 0 else Nat.log2 x + 1
theorem bl_le (x m : Nat) : bl x ≤ m ↔ x < 2 ^ m := by
  unfold bl
  by_cases h : x = 0
  · subst h; simp; exact Nat.pow_pos (by decide)
  · rw [if_neg h]
    have := Nat.log2_lt (n := x) (k := m) h
    omega
set_option maxRecDepth 100000 in
theorem tab8_at : ∀ k : Fin 256, (tab8[k.val]'(by have := k.isLt; show k.val < 256; exact this)).toNat = bl k.val := by decide +kernel
theorem tab_at (T : ByteArray) (hT : T = tab8) (k : Nat) (h : k < T.size) (hk : k < 256) : (T[k]'h).toNat = bl k := by subst hT; exact tab8_at ⟨k, hk⟩
theorem bl_32 (x : Nat) (h : x < 4294967296) : bl x ≤ 32 := (bl_le x 32).2 (by simpa using h)
theorem bl_shift (x k : Nat) (h : 2 ^ k ≤ x) : bl x = k + bl (x / 2 ^ k) := by
  have hp : 0 < 2 ^ k := Nat.pow_pos (by decide)
  have h2 : 1 ≤ x / 2 ^ k := (Nat.le_div_iff_mul_le hp).2 (by omega)
  apply Nat.le_antisymm
  · rw [bl_le, Nat.pow_add, Nat.mul_comm, ← Nat.div_lt_iff_lt_mul hp, ← bl_le]; exact Nat.le_refl _
  · have h3 : k ≤ bl x := by
      rcases Nat.lt_or_ge (bl x) k with h' | h'
      · have := (bl_le x (k - 1)).1 (by omega)
        have h4 : 2 ^ (k - 1) ≤ 2 ^ k := Nat.pow_le_pow_right (by decide) (by omega)
        omega
      · exact h'
    have h4 : bl (x / 2 ^ k) ≤ bl x - k := by
      rw [bl_le, Nat.div_lt_iff_lt_mul hp, ← Nat.pow_add, ← bl_le]; omega
    omega
def lz (a b : Nat) : Nat := 32 - bl (a ^^^ b)
theorem xor_lt (a b : Nat) (ha : a < 4294967296) (hb : b < 4294967296) : a ^^^ b < 4294967296 := by
  have := Nat.xor_lt_two_pow (n := 32) (x := a) (y := b) (by simpa using ha) (by simpa using hb)
  simpa using this
/-- The first n bits of two words are the same just if n is at most the number of first bits that they share. -/
theorem ct_lz (a b n : Nat) (ha : a < 4294967296) (hb : b < 4294967296) (hn : n ≤ 32) : ct a n = ct b n ↔ n ≤ lz a b := by
  have hx := bl_32 _ (xor_lt a b ha hb)
  have h1 : n ≤ lz a b ↔ bl (a ^^^ b) ≤ 32 - n := by unfold lz; omega
  rw [h1, bl_le]
  have hp : 0 < 2 ^ (32 - n) := Nat.pow_pos (by decide)
  have h2 : a ^^^ b < 2 ^ (32 - n) ↔ (a ^^^ b) / 2 ^ (32 - n) = 0 := by rw [Nat.div_eq_zero_iff]; omega
  rw [h2, ← Nat.shiftRight_eq_div_pow, Nat.shiftRight_xor_distrib, Nat.shiftRight_eq_div_pow, Nat.shiftRight_eq_div_pow]
  unfold ct bk
  constructor
  · intro h
    rw [Nat.eq_of_mul_eq_mul_right hp h, Nat.xor_self]
  · intro h
    have : a / 2 ^ (32 - n) = b / 2 ^ (32 - n) := by
      apply Nat.eq_of_testBit_eq
      intro i
      have := congrArg (fun z => z.testBit i) h
      simp only [Nat.testBit_xor, Nat.zero_testBit] at this
      simpa using this
    rw [this]
theorem lz_le (a b : Nat) : lz a b ≤ 32 := by unfold lz; omega
def cE (a : Nat) (n : Int) (b : Nat) (m : Int) : Int := if chk a n = 0 then chk b m else chk a n
def cN (a : Nat) (n : Int) (b : Nat) (m : Int) : Nat := if cE a n b m = 0 then min (min n.toNat m.toNat) (lz a b) else 0
def cA (a : Nat) (n : Int) (b : Nat) (m : Int) : Nat := if cE a n b m = 0 then ct a (cN a n b m) else 0
/-- The first that is not 0. -/
def orI (x y : Int) : Int := if x = 0 then y else x
end Go.Proofs.YtgidohnikggjfaaGreat.Pf