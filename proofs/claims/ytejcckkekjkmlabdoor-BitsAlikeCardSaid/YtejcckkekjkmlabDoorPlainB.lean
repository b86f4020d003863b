/-
  Plain arithmetic on words of 32 bits, more: what keeping, turning, counting and comparing bits have to do with one another. No program is named here.
-/
import Derived.Test.YtejcckkekjkmlabDoorPlain
namespace Go.Proofs.YtejcckkekjkmlabDoor
open Go.RowKit

theorem lb_bit (a i : Nat) : lb a i = 1 ↔ a.testBit i = true := by
  unfold lb; rw [Nat.testBit_eq_decide_div_mod_eq]; simp
theorem lb_val (a i : Nat) : lb a i = if a.testBit i then 1 else 0 := by
  have h := lb_lt a i
  by_cases hb : a.testBit i = true
  · rw [if_pos hb]; exact (lb_bit a i).2 hb
  · rw [if_neg hb]
    have := mt (lb_bit a i).1 hb
    omega
theorem lb_ext (a b i j : Nat) : lb a i = lb b j ↔ a.testBit i = b.testBit j := by
  rw [lb_val, lb_val]
  cases a.testBit i <;> cases b.testBit j <;> simp
theorem bit_past (a j : Nat) (ha : a < 4294967296) (h : 32 ≤ j) : a.testBit j = false := by
  apply Nat.testBit_lt_two_pow
  have : 2 ^ 32 ≤ 2 ^ j := Nat.pow_le_pow_right (by decide) h
  omega
theorem lb_testBit (a k m : Nat) : (lb a k).testBit m = (decide (m = 0) && a.testBit k) := by
  rw [lb_val]
  cases a.testBit k
  · simp
  · cases m <;> simp [Nat.testBit_succ]
theorem turned_bit (a : Nat) : ∀ k j, k ≤ 32 → j ≤ 31 → (turned a k).testBit j = (decide (31 - j < k) && a.testBit (31 - j))
  | 0, j, _, _ => by simp [turned]
  | k + 1, j, h, hj => by
    simp only [turned]
    rw [Nat.testBit_or, turned_bit a k j (by omega) hj, Nat.testBit_mul_two_pow, lb_testBit]
    by_cases h1 : 31 - j < k
    · have h2 : ¬ (j - (31 - k) = 0 ∧ 31 - k ≤ j) := by omega
      have h3 : 31 - j < k + 1 := by omega
      have h4 : (decide (31 - k ≤ j) && (decide (j - (31 - k) = 0) && a.testBit k)) = false := by
        by_cases h5 : 31 - k ≤ j
        · have : ¬ j - (31 - k) = 0 := fun e => h2 ⟨e, h5⟩
          simp [this]
        · simp [h5]
      simp [h1, h3] at h4 ⊢
      intro a1 a2 a3
      omega
    · by_cases h2 : j = 31 - k
      · subst h2
        have h3 : 31 - (31 - k) = k := by omega
        have h4 : ¬ (31 - (31 - k) < k) := by omega
        simp [h3]
      · have h3 : ¬ (31 - j < k + 1) := by omega
        have h4 : ¬ (31 - k ≤ j) := by omega
        simp [h1, h3, h4]
theorem turned_all (a j : Nat) (hj : j ≤ 31) : (turned a 32).testBit j = a.testBit (31 - j) := by
  rw [turned_bit a 32 j (by decide) hj]
  have : 31 - j < 32 := by omega
  simp [this]
theorem turned_twice (a : Nat) (ha : a < 4294967296) : turned (turned a 32) 32 = a := by
  apply Nat.eq_of_testBit_eq
  intro j
  by_cases hj : j ≤ 31
  · rw [turned_all _ j hj, turned_all a (31 - j) (by omega), show 31 - (31 - j) = j by omega]
  · rw [bit_past _ j (turned_lt _ 32 (by decide)) (by omega), bit_past a j ha (by omega)]
theorem tb_turned (a i : Nat) (hi : i ≤ 31) : tb (turned a 32) i = lb a i := by
  show lb (turned a 32) (31 - i) = lb a i
  rw [lb_ext, turned_all a (31 - i) (by omega), show 31 - (31 - i) = i by omega]
theorem lo_sm (a : Nat) : ∀ f i, f + i = 32 → lo a f i = sm (turned a 32) 0 f i
  | 0, _, _ => rfl
  | f + 1, i, h => by
    have ht : tb 0 i = 0 := by simp [tb]
    have hl := lb_lt a i
    simp only [lo, sm]
    rw [tb_turned a i (by omega), ht]
    by_cases h1 : lb a i = 1
    · rw [if_pos h1, if_neg (by omega)]
    · rw [if_neg h1, if_pos (by omega), lo_sm a f (i + 1) (by omega)]
theorem lb_not (a i : Nat) (ha : a < 4294967296) (hi : i < 32) : lb a i + lb (4294967295 - a) i = 1 := by
  have h : (4294967295 - a).testBit i = !a.testBit i := by
    have := Nat.testBit_two_pow_sub_succ (n := 32) (x := a) (by simpa using ha) i
    rw [show 2 ^ 32 - (a + 1) = 4294967295 - a by omega] at this
    rw [this]; simp [hi]
  rw [lb_val, lb_val, h]
  cases a.testBit i <;> simp
theorem xor_not (a : Nat) (ha : a < 4294967296) : bits .xor .u32 4294967295 (a : Int) = ((4294967295 - a : Nat) : Int) := by
  have h := u32_xor_nat 4294967295 a (by decide) ha
  have e : 4294967295 ^^^ a = 4294967295 - a := by
    apply Nat.eq_of_testBit_eq
    intro i
    have := Nat.testBit_two_pow_sub_succ (n := 32) (x := a) (by simpa using ha) i
    rw [show 2 ^ 32 - (a + 1) = 4294967295 - a by omega] at this
    rw [this, Nat.testBit_xor, show (4294967295 : Nat) = 2 ^ 32 - 1 by decide, Nat.testBit_two_pow_sub_one]
    by_cases hi : i < 32
    · simp [hi]
    · rw [bit_past a i ha (by omega)]; simp [hi]
  rw [e] at h
  exact h
theorem ones_not (a : Nat) (ha : a < 4294967296) : ∀ k, k ≤ 32 → ones a k + ones (4294967295 - a) k = k
  | 0, _ => rfl
  | k + 1, h => by
    have h1 := ones_not a ha k (by omega)
    have h2 := lb_not a k ha (by omega)
    simp only [ones]
    omega
theorem hiw_bit (n j : Nat) (hn : n ≤ 32) (hj : j < 32) : (hiw n).testBit j = decide (32 - n ≤ j) := by
  have hp : 0 < 2 ^ (32 - n) := Nat.pow_pos (by decide)
  have hq : 2 ^ (32 - n) ≤ 2 ^ 32 := Nat.pow_le_pow_right (by decide) (by omega)
  have := Nat.testBit_two_pow_sub_succ (n := 32) (x := 2 ^ (32 - n) - 1) (by omega) j
  rw [show 2 ^ 32 - (2 ^ (32 - n) - 1 + 1) = hiw n by unfold hiw; omega, Nat.testBit_two_pow_sub_one] at this
  rw [this]
  by_cases h : j < 32 - n
  · have : ¬ (32 - n ≤ j) := by omega
    simp [h, this]
  · have : 32 - n ≤ j := by omega
    simp [h, this, hj]
theorem kp_bit (a n j : Nat) (hn : n ≤ 32) (hj : j < 32) : (kp a n).testBit j = (a.testBit j && decide (32 - n ≤ j)) := by
  unfold kp; rw [Nat.testBit_and, hiw_bit n j hn hj]
theorem kp_alike (a b n : Nat) (hn : n ≤ 32) (ha : a < 4294967296) (hb : b < 4294967296) : kp a n = kp b n ↔ ∀ i, i < n → tb a i = tb b i := by
  constructor
  · intro h i hi
    show lb a (31 - i) = lb b (31 - i)
    rw [lb_ext]
    have e := congrArg (fun x => x.testBit (31 - i)) h
    simp only [kp_bit a n (31 - i) hn (by omega), kp_bit b n (31 - i) hn (by omega)] at e
    have : 32 - n ≤ 31 - i := by omega
    simpa [this] using e
  · intro h
    apply Nat.eq_of_testBit_eq
    intro j
    by_cases hj : j < 32
    · rw [kp_bit a n j hn hj, kp_bit b n j hn hj]
      by_cases h1 : 32 - n ≤ j
      · have e := h (31 - j) (by omega)
        have e' : lb a (31 - (31 - j)) = lb b (31 - (31 - j)) := e
        rw [lb_ext, show 31 - (31 - j) = j by omega] at e'
        rw [e']
      · simp [h1]
    · rw [bit_past _ j (kp_lt a n ha) (by omega), bit_past _ j (kp_lt b n hb) (by omega)]
theorem sm_le (a b n : Nat) : ∀ f i, i ≤ n → n ≤ i + f → (n ≤ sm a b f i ↔ ∀ j, i ≤ j → j < n → tb a j = tb b j)
  | 0, i, h1, h2 => by
    obtain rfl : n = i := by omega
    simp only [sm]
    exact ⟨fun _ j h3 h4 => by omega, fun _ => Nat.le_refl _⟩
  | f + 1, i, h1, h2 => by
    by_cases hin : i = n
    · subst hin
      have hle : ∀ f i, i ≤ sm a b f i := by
        intro f
        induction f with
        | zero => intro i; exact Nat.le_refl _
        | succ f ih =>
          intro i
          simp only [sm]
          by_cases h : tb a i = tb b i
          · rw [if_pos h]; exact Nat.le_trans (Nat.le_succ i) (ih (i + 1))
          · rw [if_neg h]; exact Nat.le_refl _
      exact ⟨fun _ j h3 h4 => by omega, fun _ => hle _ _⟩
    · simp only [sm]
      by_cases h : tb a i = tb b i
      · rw [if_pos h, sm_le a b n f (i + 1) (by omega) (by omega)]
        constructor
        · intro g j h3 h4
          by_cases e : j = i
          · subst e; exact h
          · exact g j (by omega) h4
        · intro g j h3 h4
          exact g j (by omega) h4
      · rw [if_neg h]
        constructor
        · intro h3; omega
        · intro g; exact absurd (g i (Nat.le_refl _) (by omega)) h
theorem same_kept (a b n : Nat) (hn : n ≤ 32) (ha : a < 4294967296) (hb : b < 4294967296) : n ≤ sm a b 32 0 ↔ kp a n = kp b n := by
  rw [sm_le a b n 32 0 (Nat.zero_le _) (by omega), kp_alike a b n hn ha hb]
  exact ⟨fun h i hi => h i (Nat.zero_le _) hi, fun h j _ hj => h j hj⟩
end Go.Proofs.YtejcckkekjkmlabDoor
