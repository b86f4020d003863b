/-
  Plain arithmetic on prefixes, more: prefixes nest or lie apart; Common is the least that holds both. No program is named here.
-/
import Derived.Test.YthmekipdhlipbaaPxPlB
namespace Go.Proofs.Ythmekipdhlipbaa
open Go.RowKit
set_option linter.unusedVariables false
set_option linter.unusedSimpArgs false

/-- The greatest address of a prefix. -/
def hi (a n : Nat) : Nat := a + (bk n - 1)
theorem le_hi (a n : Nat) : a ≤ hi a n := by unfold hi; omega
theorem hi_lt (a n : Nat) (ha : a < 4294967296) (h : a % bk n = 0) (hn : n ≤ 32) : hi a n < 4294967296 := top_lt a n ha h hn
theorem bk_le_of (m n : Nat) (h : m ≤ n) : bk n ≤ bk m := Nat.le_of_dvd (bk_pos m) (bk_dvd m n h)
theorem bk_lt_of (m n : Nat) (h : m < n) (hn : n ≤ 32) : bk n < bk m := by
  have h1 := bk_succ m (by omega)
  have h2 := bk_le_of (m + 1) n (by omega)
  have h3 := bk_pos n
  omega
theorem bk_inj (m n : Nat) (hm : m ≤ 32) (hn : n ≤ 32) (h : bk m = bk n) : m = n := by
  rcases Nat.lt_trichotomy m n with k | k | k
  · have := bk_lt_of m n k hn; omega
  · exact k
  · have := bk_lt_of n m k hm; omega
theorem wit_iff (a n b m : Nat) (hn : n ≤ 32) (hm : m ≤ 32) (h0 : a % bk n = 0) (k0 : b % bk m = 0) : witB a n b m = true ↔ m ≤ n ∧ ct a m = b := by
  have ka := chk_in a n hn h0
  have kb := chk_in b m hm k0
  unfold witB
  rw [hasB_in kb]
  simp [ka]
/-- In multiples of the finer step: what lies in a coarser run and begins on the finer step ends in it. -/
theorem in_run (a n m : Nat) (h : m ≤ n) (h0 : a % bk n = 0) : a % bk m + bk n ≤ bk m := by
  obtain ⟨c, hc⟩ := bk_dvd m n h
  have hp := bk_pos n
  have hlt := Nat.mod_lt a (bk_pos m)
  obtain ⟨d, hd⟩ : bk n ∣ a % bk m := by
    have h1 : bk n ∣ a := Nat.dvd_of_mod_eq_zero h0
    exact (Nat.dvd_mod_iff (bk_dvd m n h)).2 h1
  have hdc : d < c := by
    rcases Nat.lt_or_ge d c with k | k
    · exact k
    · have := Nat.mul_le_mul_left (bk n) k; omega
  have := Nat.mul_le_mul_left (bk n) (show d + 1 ≤ c by omega)
  rw [Nat.mul_add] at this
  omega
theorem wit_runs (a n b m : Nat) (hn : n ≤ 32) (hm : m ≤ 32) (h0 : a % bk n = 0) (k0 : b % bk m = 0) : witB a n b m = true ↔ b ≤ a ∧ hi a n ≤ hi b m := by
  rw [wit_iff a n b m hn hm h0 k0]
  unfold hi
  have p1 := bk_pos n
  have p2 := bk_pos m
  constructor
  · rintro ⟨h, e⟩
    have h1 := in_run a n m h h0
    have h2 := ct_add a m
    omega
  · rintro ⟨h1, h2⟩
    have hmn : m ≤ n := by
      rcases Nat.lt_or_ge n m with k | k
      · have := bk_lt_of n m k hm; omega
      · exact k
    refine ⟨hmn, ?_⟩
    obtain ⟨c, rfl⟩ := Nat.dvd_of_mod_eq_zero k0
    unfold ct
    have : a / bk m = c := by
      apply Nat.div_eq_of_lt_le
      · rw [Nat.mul_comm]; exact h1
      · rw [Nat.add_mul, Nat.mul_comm c]; omega
    rw [this, Nat.mul_comm]
theorem apart_of (a n b m : Nat) (hn : n ≤ 32) (hm : m ≤ 32) (h0 : a % bk n = 0) (k0 : b % bk m = 0) (h : m ≤ n) (w1 : ¬ witB a n b m = true) : hi a n < b ∨ hi b m < a := by
  rw [wit_iff a n b m hn hm h0 k0] at w1
  have e : ct a m ≠ b := fun e => w1 ⟨h, e⟩
  have h1 := in_run a n m h h0
  have h2 := ct_add a m
  have p1 := bk_pos n
  have p2 := bk_pos m
  unfold hi
  obtain ⟨c, rfl⟩ := Nat.dvd_of_mod_eq_zero k0
  obtain ⟨d, hd⟩ := Nat.dvd_of_mod_eq_zero (ct_mod a m)
  rw [hd] at e h2
  rcases Nat.lt_trichotomy c d with k | k | k
  · right
    have := Nat.mul_le_mul_left (bk m) (show c + 1 ≤ d by omega)
    rw [Nat.mul_add] at this
    omega
  · exact absurd (by rw [k]) e
  · left
    have := Nat.mul_le_mul_left (bk m) (show d + 1 ≤ c by omega)
    rw [Nat.mul_add] at this
    omega
theorem wit_apart (a n b m : Nat) (hn : n ≤ 32) (hm : m ≤ 32) (h0 : a % bk n = 0) (k0 : b % bk m = 0) (w1 : witB a n b m = false) (w2 : witB b m a n = false) : hi a n < b ∨ hi b m < a := by
  rcases Nat.le_total m n with h | h
  · exact apart_of a n b m hn hm h0 k0 h (by simp [w1])
  · exact (apart_of b m a n hm hn k0 h0 h (by simp [w2])).symm
theorem wit_both (a n b m : Nat) (hn : n ≤ 32) (hm : m ≤ 32) (h0 : a % bk n = 0) (k0 : b % bk m = 0) (w1 : witB a n b m = true) (w2 : witB b m a n = true) : a = b ∧ n = m := by
  have h1 := (wit_iff a n b m hn hm h0 k0).1 w1
  have h2 := (wit_iff b m a n hm hn k0 h0).1 w2
  obtain rfl : n = m := by omega
  exact ⟨by rw [← h1.2, ct_self a n h0], rfl⟩
theorem wit_self (a n : Nat) (hn : n ≤ 32) (h0 : a % bk n = 0) : witB a n a n = true := (wit_iff a n a n hn hn h0 h0).2 ⟨Nat.le_refl _, ct_self a n h0⟩
theorem wit_trans (a n b m c k : Nat) (hn : n ≤ 32) (hm : m ≤ 32) (hk : k ≤ 32) (h0 : a % bk n = 0) (k0 : b % bk m = 0) (l0 : c % bk k = 0) (w1 : witB a n b m = true) (w2 : witB b m c k = true) : witB a n c k = true := by
  have h1 := (wit_runs a n b m hn hm h0 k0).1 w1
  have h2 := (wit_runs b m c k hm hk k0 l0).1 w2
  exact (wit_runs a n c k hn hk h0 l0).2 ⟨by omega, by omega⟩
/-- Common: the length. -/
def cl (a n b m : Nat) : Nat := min (min n m) (lz a b)
theorem cl_le (a n b m : Nat) (hn : n ≤ 32) : cl a n b m ≤ 32 := by unfold cl; omega
theorem com_holds (a n b m : Nat) (ha : a < 4294967296) (hb : b < 4294967296) (hn : n ≤ 32) (hm : m ≤ 32) (h0 : a % bk n = 0) (k0 : b % bk m = 0) :
    witB a n (ct a (cl a n b m)) (cl a n b m : Nat) = true ∧ witB b m (ct a (cl a n b m)) (cl a n b m : Nat) = true := by
  have hK := cl_le a n b m hn
  rw [wit_cut a n _ hK (chk_in a n hn h0), wit_cut' a b m _ hK ha hb (chk_in b m hm k0)]
  unfold cl
  exact ⟨decide_eq_true (by omega), decide_eq_true (by omega)⟩
theorem com_least (a n b m c k : Nat) (ha : a < 4294967296) (hb : b < 4294967296) (hn : n ≤ 32) (hm : m ≤ 32) (hk : k ≤ 32) (h0 : a % bk n = 0) (k0 : b % bk m = 0) (l0 : c % bk k = 0) :
    witB (ct a (cl a n b m)) (cl a n b m : Nat) c k = (witB a n c k && witB b m c k) := by
  have hK := cl_le a n b m hn
  have hh := com_holds a n b m ha hb hn hm h0 k0
  have p0 := ct_mod a (cl a n b m)
  rw [Bool.eq_iff_iff, Bool.and_eq_true]
  constructor
  · intro h
    exact ⟨wit_trans a n _ _ c k hn hK hk h0 p0 l0 hh.1 h, wit_trans b m _ _ c k hm hK hk k0 p0 l0 hh.2 h⟩
  · rintro ⟨h1, h2⟩
    rw [wit_iff a n c k hn hk h0 l0] at h1
    rw [wit_iff b m c k hm hk k0 l0] at h2
    rw [wit_iff _ _ c k hK hk p0 l0]
    have hl := (ct_lz a b k ha hb hk).1 (h1.2.trans h2.2.symm)
    have hle : k ≤ cl a n b m := by unfold cl; omega
    exact ⟨hle, by rw [ct_ct a k _ hle]; exact h1.2⟩
end Go.Proofs.Ythmekipdhlipbaa
