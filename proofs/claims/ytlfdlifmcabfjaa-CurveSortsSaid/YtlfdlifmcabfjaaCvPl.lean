/-
  The walk through a square, as plain functions of whole numbers: places and points, one to one, a step at a time. No program is named here.
-/
import Derived.Laws.ComplexArith
namespace Go.Proofs.Ytlfdlifmcabfjaa
set_option linter.unusedVariables false
set_option linter.unusedSimpArgs false

def layP (h q : Int) (p : Int × Int) : Int × Int :=
  if q = 0 then (p.2, p.1) else if q = 1 then (p.1, p.2 + h) else if q = 2 then (p.1 + h, p.2 + h) else (2 * h - 1 - p.2, h - 1 - p.1)
def hil : Nat → Int → Int × Int
  | 0, _ => (0, 0)
  | n + 1, p => layP (2 ^ n) (p / 4 ^ n) (hil n (p % 4 ^ n))
def tkP (h : Int) (p : Int × Int) : Int × (Int × Int) :=
  if p.1 < h then (if p.2 < h then (0, (p.2, p.1)) else (1, (p.1, p.2 - h))) else if h ≤ p.2 then (2, (p.1 - h, p.2 - h)) else (3, (h - 1 - p.2, 2 * h - 1 - p.1))
def plc : Nat → Int × Int → Int
  | 0, _ => 0
  | n + 1, p => (tkP (2 ^ n) p).1 * 4 ^ n + plc n (tkP (2 ^ n) p).2
def InSq (n : Nat) (p : Int × Int) : Prop := 0 ≤ p.1 ∧ p.1 < 2 ^ n ∧ 0 ≤ p.2 ∧ p.2 < 2 ^ n

theorem two_pos (n : Nat) : (1 : Int) ≤ 2 ^ n := by have := Int.pow_pos (n := 2) (m := n) (by omega); omega
theorem four_pos (n : Nat) : (1 : Int) ≤ 4 ^ n := by have := Int.pow_pos (n := 4) (m := n) (by omega); omega
theorem two_succ (n : Nat) : (2 : Int) ^ (n + 1) = 2 * 2 ^ n := by rw [Int.pow_succ, Int.mul_comm]
theorem four_succ (n : Nat) : (4 : Int) ^ (n + 1) = 4 * 4 ^ n := by rw [Int.pow_succ, Int.mul_comm]
theorem four_two (n : Nat) : (4 : Int) ^ n = 2 ^ n * 2 ^ n := by rw [← Int.mul_pow]; rfl
/-- The digit and the rest. -/
theorem dig_of (n : Nat) (p : Int) (h0 : 0 ≤ p) (h1 : p < 4 ^ (n + 1)) : (p / 4 ^ n = 0 ∨ p / 4 ^ n = 1 ∨ p / 4 ^ n = 2 ∨ p / 4 ^ n = 3) ∧ 0 ≤ p % 4 ^ n ∧ p % 4 ^ n < 4 ^ n ∧ p = p / 4 ^ n * 4 ^ n + p % 4 ^ n := by
  rw [four_succ] at h1
  have hN := four_pos n
  generalize (4 : Int) ^ n = N at h1 hN ⊢
  have a := Int.emod_nonneg p (b := N) (by omega)
  have b := Int.emod_lt_of_pos p (b := N) (by omega)
  have c := Int.mul_ediv_add_emod p N
  have d := Int.ediv_nonneg h0 (show 0 ≤ N by omega)
  have e : p / N < 4 := Int.ediv_lt_of_lt_mul (by omega) (by omega)
  refine ⟨by omega, a, b, ?_⟩
  rw [Int.mul_comm]; omega
theorem dig_mk (n : Nat) (q r : Int) (h0 : 0 ≤ r) (h1 : r < 4 ^ n) : (q * 4 ^ n + r) / 4 ^ n = q ∧ (q * 4 ^ n + r) % 4 ^ n = r := by
  have hN := four_pos n
  refine ⟨?_, ?_⟩
  · rw [Int.add_comm, Int.add_mul_ediv_right _ _ (by omega), Int.ediv_eq_zero_of_lt h0 h1]; omega
  · rw [Int.add_comm, Int.add_mul_emod_self_right, Int.emod_eq_of_lt h0 h1]
theorem lay_sq (n : Nat) (q : Int) (p : Int × Int) (h : InSq n p) (hq : q = 0 ∨ q = 1 ∨ q = 2 ∨ q = 3) : InSq (n + 1) (layP (2 ^ n) q p) := by
  obtain ⟨a, b, c, d⟩ := h
  have := two_pos n
  unfold InSq
  rw [two_succ]
  rcases hq with rfl | rfl | rfl | rfl <;> simp [layP] <;> omega
theorem hil_sq : ∀ (n : Nat) (p : Int), 0 ≤ p → p < 4 ^ n → InSq n (hil n p)
  | 0, p, _, _ => by simp [hil, InSq]
  | n + 1, p, h0, h1 => by
    obtain ⟨a, b, c, _⟩ := dig_of n p h0 h1
    exact lay_sq n _ _ (hil_sq n _ b c) a
theorem tk_sq (n : Nat) (p : Int × Int) (h : InSq (n + 1) p) : InSq n (tkP (2 ^ n) p).2 ∧ ((tkP (2 ^ n) p).1 = 0 ∨ (tkP (2 ^ n) p).1 = 1 ∨ (tkP (2 ^ n) p).1 = 2 ∨ (tkP (2 ^ n) p).1 = 3) ∧ layP (2 ^ n) (tkP (2 ^ n) p).1 (tkP (2 ^ n) p).2 = p := by
  obtain ⟨a, b, c, d⟩ := h
  rw [two_succ] at b d
  obtain ⟨x, y⟩ := p
  have := two_pos n
  simp only at a b c d
  unfold tkP InSq
  simp only
  by_cases h1 : x < 2 ^ n <;> by_cases h2 : y < 2 ^ n <;> simp [h1, h2, layP] <;> (try simp [show 2 ^ n ≤ y by omega, layP]) <;> (try simp [show ¬ (2 : Int) ^ n ≤ y by omega, layP]) <;> omega
theorem tk_lay (n : Nat) (q : Int) (p : Int × Int) (h : InSq n p) (hq : q = 0 ∨ q = 1 ∨ q = 2 ∨ q = 3) : tkP (2 ^ n) (layP (2 ^ n) q p) = (q, p) := by
  obtain ⟨a, b, c, d⟩ := h
  obtain ⟨x, y⟩ := p
  have := two_pos n
  simp only at a b c d
  rcases hq with rfl | rfl | rfl | rfl
  · simp only [layP, tkP, if_true]; rw [if_pos (by omega), if_pos (by omega)]
  · simp only [layP, tkP, if_true]; simp
    rw [if_pos (by omega), if_neg (by omega)]
  · simp only [layP, tkP, if_true]; simp
    rw [if_neg (by omega), if_pos (by omega)]
  · simp only [layP, tkP, if_true]; simp
    rw [if_neg (by omega), if_neg (by omega)]
    simp only [Int.sub_sub_self]
theorem plc_rng : ∀ (n : Nat) (z : Int × Int), InSq n z → 0 ≤ plc n z ∧ plc n z < 4 ^ n
  | 0, z, _ => by simp [plc]
  | n + 1, z, h => by
    obtain ⟨a, b, _⟩ := tk_sq n z h
    obtain ⟨c, d⟩ := plc_rng n _ a
    rw [four_succ]
    unfold plc
    rcases b with e | e | e | e <;> rw [e] <;> omega
theorem plc_hil : ∀ (n : Nat) (p : Int), 0 ≤ p → p < 4 ^ n → plc n (hil n p) = p
  | 0, p, h0, h1 => by simp [plc]; simp at h1; omega
  | n + 1, p, h0, h1 => by
    obtain ⟨a, b, c, d⟩ := dig_of n p h0 h1
    show (tkP (2 ^ n) (hil (n + 1) p)).1 * 4 ^ n + plc n (tkP (2 ^ n) (hil (n + 1) p)).2 = p
    unfold hil
    rw [tk_lay n _ _ (hil_sq n _ b c) a]
    simp only
    rw [plc_hil n _ b c]; omega
theorem hil_plc : ∀ (n : Nat) (z : Int × Int), InSq n z → hil n (plc n z) = z
  | 0, z, h => by obtain ⟨x, y⟩ := z; obtain ⟨a, b, c, d⟩ := h; simp at a b c d; simp [hil]; omega
  | n + 1, z, h => by
    obtain ⟨a, b, c⟩ := tk_sq n z h
    obtain ⟨d, e⟩ := plc_rng n _ a
    obtain ⟨f, g⟩ := dig_mk n (tkP (2 ^ n) z).1 _ d e
    show layP (2 ^ n) (plc (n + 1) z / 4 ^ n) (hil n (plc (n + 1) z % 4 ^ n)) = z
    unfold plc
    rw [f, g, hil_plc n _ a, c]
/-- From the lowest digit on. -/
theorem hil_low (k : Nat) (p : Int) (h0 : 0 ≤ p) : hil (k + 1) (p % 4 ^ (k + 1)) = layP (2 ^ k) (p / 4 ^ k % 4) (hil k (p % 4 ^ k)) := by
  have hN := four_pos k
  show layP (2 ^ k) (p % 4 ^ (k + 1) / 4 ^ k) (hil k (p % 4 ^ (k + 1) % 4 ^ k)) = _
  rw [four_succ]
  have e1 : p % (4 * 4 ^ k) % 4 ^ k = p % 4 ^ k := Int.emod_emod_of_dvd p (Int.dvd_mul_left 4 (4 ^ k))
  have e2 : p % (4 * 4 ^ k) / 4 ^ k = p / 4 ^ k % 4 := by
    generalize (4 : Int) ^ k = N at hN
    have a := Int.mul_ediv_add_emod p N
    have b := Int.emod_nonneg p (b := N) (by omega)
    have c := Int.emod_lt_of_pos p (b := N) (by omega)
    have d : p % (4 * N) = (p / N % 4) * N + p % N := by
      have e : p = (p / N / 4) * (4 * N) + ((p / N % 4) * N + p % N) := by
        have f := Int.mul_ediv_add_emod (p / N) 4
        generalize p / N = q at a f ⊢
        have g : q / 4 * (4 * N) + q % 4 * N = q * N := by
          rw [← Int.mul_assoc, ← Int.add_mul]; congr 1; omega
        rw [← Int.add_assoc, g, Int.mul_comm]; omega
      have h4 : 0 ≤ p / N % 4 := Int.emod_nonneg _ (by omega)
      have h5 : p / N % 4 < 4 := Int.emod_lt_of_pos _ (by omega)
      have h6 : 0 ≤ (p / N % 4) * N + p % N ∧ (p / N % 4) * N + p % N < 4 * N := by
        rcases (by omega : p / N % 4 = 0 ∨ p / N % 4 = 1 ∨ p / N % 4 = 2 ∨ p / N % 4 = 3) with q | q | q | q <;> rw [q] <;> omega
      generalize hX : (p / N % 4) * N + p % N = X at e h6 ⊢
      generalize p / N / 4 = Y at e
      rw [e, Int.add_comm, Int.add_mul_emod_self_right, Int.emod_eq_of_lt h6.1 h6.2]
    rw [d, Int.add_comm, Int.add_mul_ediv_right _ _ (by omega), Int.ediv_eq_zero_of_lt b c]; omega
  rw [e1, e2]
theorem hil_first : ∀ n, hil n 0 = (0, 0)
  | 0 => rfl
  | n + 1 => by
    show layP (2 ^ n) (0 / 4 ^ n) (hil n (0 % 4 ^ n)) = _
    rw [Int.zero_ediv, Int.zero_emod, hil_first n]; rfl
theorem hil_last : ∀ n, hil n (4 ^ n - 1) = (2 ^ n - 1, 0)
  | 0 => by simp [hil]
  | n + 1 => by
    have hN := four_pos n
    have e : (4 : Int) ^ (n + 1) - 1 = 3 * 4 ^ n + (4 ^ n - 1) := by rw [four_succ]; omega
    obtain ⟨f, g⟩ := dig_mk n 3 (4 ^ n - 1) (by omega) (by omega)
    show layP (2 ^ n) ((4 ^ (n + 1) - 1) / 4 ^ n) (hil n ((4 ^ (n + 1) - 1) % 4 ^ n)) = _
    rw [e, f, g, hil_last n, two_succ]
    simp [layP]
def Beside (a b : Int × Int) : Prop := (b.1 - a.1 = 1 ∧ b.2 - a.2 = 0) ∨ (b.1 - a.1 = 0 ∧ b.2 - a.2 = 1) ∨ (b.1 - a.1 = -1 ∧ b.2 - a.2 = 0) ∨ (b.1 - a.1 = 0 ∧ b.2 - a.2 = -1)
theorem hil_step : ∀ (n : Nat) (p : Int), 0 ≤ p → p + 1 < 4 ^ n → Beside (hil n p) (hil n (p + 1))
  | 0, p, h0, h1 => by simp at h1; omega
  | n + 1, p, h0, h1 => by
    obtain ⟨a, b, c, d⟩ := dig_of n p h0 (by omega)
    have hN := four_pos n
    have hH := two_pos n
    show Beside (layP (2 ^ n) (p / 4 ^ n) (hil n (p % 4 ^ n))) (layP (2 ^ n) ((p + 1) / 4 ^ n) (hil n ((p + 1) % 4 ^ n)))
    by_cases hr : p % 4 ^ n + 1 < 4 ^ n
    · obtain ⟨f, g⟩ := dig_mk n (p / 4 ^ n) (p % 4 ^ n + 1) (by omega) hr
      rw [← Int.add_assoc, ← d] at f g
      have ih := hil_step n (p % 4 ^ n) b hr
      rw [f, g]
      generalize hil n (p % 4 ^ n) = A at ih ⊢
      generalize hil n (p % 4 ^ n + 1) = B at ih ⊢
      unfold Beside at ih ⊢
      rcases a with e | e | e | e <;> rw [e] <;> simp [layP] <;> omega
    · have hr' : p % 4 ^ n = 4 ^ n - 1 := by omega
      have e1 : p + 1 = (p / 4 ^ n + 1) * 4 ^ n + 0 := by rw [Int.add_mul]; omega
      obtain ⟨f, g⟩ := dig_mk n (p / 4 ^ n + 1) 0 (by omega) (by omega)
      rw [← e1] at f g
      rw [f, g, hr', hil_first, hil_last]
      have h3 : p / 4 ^ n ≠ 3 := fun e => by rw [e] at d; rw [four_succ] at h1; omega
      unfold Beside
      rcases a with e | e | e | e
      · rw [e]; simp [layP]; omega
      · rw [e]; simp [layP]; omega
      · rw [e]; simp [layP]; omega
      · exact absurd e h3
end Go.Proofs.Ytlfdlifmcabfjaa
