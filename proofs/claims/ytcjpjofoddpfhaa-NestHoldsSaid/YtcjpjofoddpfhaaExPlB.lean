/-
  What the fewest stems of a set hold, how many ports they have, how many they are for a span. No program is named here.
-/
import Derived.Test.YtcjpjofoddpfhaaExPlain
namespace Go.Proofs.Ytcjpjofoddpfhaa.Xp
open Go.RowKit
set_option linter.unusedVariables false

/-- Does the stem (begin, length) hold the port? -/
def hos (q : Nat) (t : Nat × Nat) : Bool := decide (t.1 ≤ q ∧ q < t.1 + 2 ^ (16 - t.2))
/-- A stem that may be, within [a, a + n). -/
structure Sits (p : Nat → Bool) (a n : Nat) (t : Nat × Nat) : Prop where
  ge : a ≤ t.1
  le : t.1 + 2 ^ (16 - t.2) ≤ a + n
  len : t.2 ≤ 16
  dvd : 2 ^ (16 - t.2) ∣ t.1
  all : full p t.1 (2 ^ (16 - t.2))
theorem tl_sits (p : Nat → Bool) : ∀ (f a : Nat), f ≤ 16 → 2 ^ f ∣ a → ∀ t ∈ tl p f a, Sits p a (2 ^ f) t := by
  intro f
  induction f with
  | zero =>
    intro a hf hd t ht
    by_cases h : full p a (2 ^ 0)
    · rw [tl_full h, List.mem_singleton] at ht
      subst ht
      exact ⟨Nat.le_refl _, Nat.le_refl _, Nat.le_refl _, hd, h⟩
    · have hb : bare p a (2 ^ 0) := fun i h1 h2 => by
        have e : i = a := by rw [Nat.pow_zero] at h2; omega
        cases hp : p i
        · rfl
        · exact absurd (fun j j1 j2 => by
            have e2 : j = i := by rw [Nat.pow_zero] at j2; omega
            rw [e2]; exact hp) h
      rw [tl_bare hb] at ht; cases ht
  | succ f ih =>
    intro a hf hd t ht
    have hdbl : 2 ^ (f + 1) = 2 ^ f + 2 ^ f := by rw [Nat.pow_succ]; omega
    by_cases h1 : full p a (2 ^ (f + 1))
    · rw [tl_full h1, List.mem_singleton] at ht
      subst ht
      have e : 16 - (16 - (f + 1)) = f + 1 := by omega
      refine ⟨Nat.le_refl _, ?_, by show 16 - (f + 1) ≤ 16; omega, ?_, ?_⟩
      · show a + 2 ^ (16 - (16 - (f + 1))) ≤ _; rw [e]; exact Nat.le_refl _
      · show 2 ^ (16 - (16 - (f + 1))) ∣ a; rw [e]; exact hd
      · show full p a (2 ^ (16 - (16 - (f + 1)))); rw [e]; exact h1
    · by_cases h2 : bare p a (2 ^ (f + 1))
      · rw [tl_bare h2] at ht; cases ht
      · rw [tl_halves h1 h2, List.mem_append] at ht
        have hdf : 2 ^ f ∣ a := Nat.dvd_trans (pow_dvd_le (by omega)) hd
        rcases ht with ht | ht
        · have := ih a (by omega) hdf t ht
          exact ⟨this.ge, by have := this.le; omega, this.len, this.dvd, this.all⟩
        · have := ih (a + 2 ^ f) (by omega) (Nat.dvd_add hdf (Nat.dvd_refl _)) t ht
          exact ⟨by have := this.ge; omega, by have := this.le; omega, this.len, this.dvd, this.all⟩
theorem hos_out {p : Nat → Bool} {a n q : Nat} {t : Nat × Nat} (h : Sits p a n t) (hq : q < a ∨ a + n ≤ q) : hos q t = false := by
  unfold hos
  have := h.ge
  have := h.le
  exact decide_eq_false (by omega)
/-- Each port of the set is held by one of them alone, no other one by any. -/
theorem tl_count (p : Nat → Bool) (q : Nat) : ∀ (f a : Nat), f ≤ 16 → 2 ^ f ∣ a → (tl p f a).countP (hos q) = if (decide (a ≤ q ∧ q < a + 2 ^ f) && p q) = true then 1 else 0 := by
  intro f
  induction f with
  | zero =>
    intro a hf hd
    by_cases h : p a = true
    · have hfl : full p a (2 ^ 0) := fun i h1 h2 => by
        have e : i = a := by rw [Nat.pow_zero] at h2; omega
        rw [e]; exact h
      rw [tl_full hfl, List.countP_cons, List.countP_nil]
      by_cases e : q = a
      · subst e; simp [hos, h]
      · have h1 : hos q (a, 16 - 0) = false := decide_eq_false (by show ¬ (a ≤ q ∧ q < a + 2 ^ (16 - 16)); simp; omega)
        rw [h1, if_neg (by simp), if_neg (by simp; omega)]
    · have hb : bare p a (2 ^ 0) := fun i h1 h2 => by
        have e : i = a := by rw [Nat.pow_zero] at h2; omega
        rw [e]; simpa using h
      rw [tl_bare hb, List.countP_nil, if_neg]
      rw [Bool.and_eq_true, decide_eq_true_eq]
      rintro ⟨⟨h1, h2⟩, h3⟩
      have e : q = a := by rw [Nat.pow_zero] at h2; omega
      rw [e] at h3; exact h h3
  | succ f ih =>
    intro a hf hd
    have hdbl : 2 ^ (f + 1) = 2 ^ f + 2 ^ f := by rw [Nat.pow_succ]; omega
    by_cases h1 : full p a (2 ^ (f + 1))
    · rw [tl_full h1, List.countP_cons, List.countP_nil]
      have e : 16 - (16 - (f + 1)) = f + 1 := by omega
      by_cases hq : a ≤ q ∧ q < a + 2 ^ (f + 1)
      · have h2 : hos q (a, 16 - (f + 1)) = true := decide_eq_true (by show a ≤ q ∧ q < a + 2 ^ (16 - (16 - (f + 1))); rw [e]; exact hq)
        rw [h2, h1 q hq.1 hq.2, decide_eq_true hq]; rfl
      · have h2 : hos q (a, 16 - (f + 1)) = false := decide_eq_false (by show ¬ (a ≤ q ∧ q < a + 2 ^ (16 - (16 - (f + 1)))); rw [e]; exact hq)
        rw [h2, decide_eq_false hq]; rfl
    · by_cases h2 : bare p a (2 ^ (f + 1))
      · rw [tl_bare h2, List.countP_nil, if_neg]
        rw [Bool.and_eq_true, decide_eq_true_eq]
        rintro ⟨⟨h3, h4⟩, h5⟩
        rw [h2 q h3 h4] at h5; cases h5
      · have hdf : 2 ^ f ∣ a := Nat.dvd_trans (pow_dvd_le (by omega)) hd
        rw [tl_halves h1 h2, List.countP_append, ih a (by omega) hdf, ih (a + 2 ^ f) (by omega) (Nat.dvd_add hdf (Nat.dvd_refl _))]
        by_cases hp : p q = true
        · rw [hp]
          simp only [Bool.and_true, decide_eq_true_eq]
          by_cases x1 : a ≤ q ∧ q < a + 2 ^ f
          · rw [if_pos x1, if_neg (by omega), if_pos (by omega)]
          · rw [if_neg x1]
            by_cases x2 : a + 2 ^ f ≤ q ∧ q < a + 2 ^ f + 2 ^ f
            · rw [if_pos x2, if_pos (by omega)]
            · rw [if_neg x2, if_neg (by omega)]
        · rw [show p q = false by simpa using hp]
          simp
/-- As many ports as the set has there. -/
theorem tl_ports (p : Nat → Bool) : ∀ (f a : Nat), f ≤ 16 → ((tl p f a).map fun t => 2 ^ (16 - t.2)).sum = ah p (a + 2 ^ f) - ah p a := by
  intro f
  induction f with
  | zero =>
    intro a hf
    unfold tl
    have bd := ah_bd p a 1
    split
    · rename_i h; rw [Nat.pow_zero, h]; rfl
    · rename_i h; rw [Nat.pow_zero]; simp; omega
  | succ f ih =>
    intro a hf
    have hdbl : 2 ^ (f + 1) = 2 ^ f + 2 ^ f := by rw [Nat.pow_succ]; omega
    by_cases h1 : full p a (2 ^ (f + 1))
    · rw [tl_full h1, (ah_full p a _).2 h1]
      have e : 16 - (16 - (f + 1)) = f + 1 := by omega
      show 2 ^ (16 - (16 - (f + 1))) + 0 = _
      rw [e, Nat.add_sub_cancel_left]
      rfl
    · by_cases h2 : bare p a (2 ^ (f + 1))
      · rw [tl_bare h2, (ah_bare p a _).2 h2, Nat.sub_self]; rfl
      · rw [tl_halves h1 h2, List.map_append, List.sum_append, ih a (by omega), ih (a + 2 ^ f) (by omega), hdbl, ← Nat.add_assoc]
        have b1 := ah_bd p a (2 ^ f)
        have b2 := ah_bd p (a + 2 ^ f) (2 ^ f)
        omega
/-- A span's ports. -/
def inS (lo hi i : Nat) : Bool := decide (lo ≤ i ∧ i ≤ hi)
theorem tl_top (lo hi : Nat) : ∀ (f a : Nat), f ≤ 16 → a + 2 ^ f ≤ hi + 1 → (tl (inS lo hi) f a).length ≤ max 1 f := by
  intro f
  induction f with
  | zero =>
    intro a _ _
    unfold tl
    split <;> simp
  | succ f ih =>
    intro a hf h
    have hdbl : 2 ^ (f + 1) = 2 ^ f + 2 ^ f := by rw [Nat.pow_succ]; omega
    have hpos : 0 < 2 ^ f := Nat.pow_pos (by decide)
    by_cases h1 : full (inS lo hi) a (2 ^ (f + 1))
    · rw [tl_full h1]; simp <;> omega
    · by_cases h2 : bare (inS lo hi) a (2 ^ (f + 1))
      · rw [tl_bare h2]; simp
      · rw [tl_halves h1 h2, List.length_append]
        by_cases x : lo ≤ a + 2 ^ f
        · have hfl : full (inS lo hi) (a + 2 ^ f) (2 ^ f) := fun i i1 i2 => decide_eq_true (by omega)
          have := ih a (by omega) (by omega)
          rw [tl_full hfl]
          cases f with
          | zero =>
            have hb : bare (inS lo hi) a (2 ^ 0) := fun i i1 i2 => decide_eq_false (by
              intro hc
              apply h1
              intro j j1 j2
              have e1 : i = a := by rw [Nat.pow_zero] at i2; omega
              exact decide_eq_true (by omega))
            rw [tl_bare hb]; simp
          | succ f => simp at this ⊢; omega
        · have hb : bare (inS lo hi) a (2 ^ f) := fun i i1 i2 => decide_eq_false (by omega)
          have := ih (a + 2 ^ f) (by omega) (by omega)
          rw [tl_bare hb]
          simp at this ⊢; omega
theorem tl_bot (lo hi : Nat) : ∀ (f a : Nat), f ≤ 16 → lo ≤ a → (tl (inS lo hi) f a).length ≤ max 1 f := by
  intro f
  induction f with
  | zero =>
    intro a _ _
    unfold tl
    split <;> simp
  | succ f ih =>
    intro a hf h
    have hdbl : 2 ^ (f + 1) = 2 ^ f + 2 ^ f := by rw [Nat.pow_succ]; omega
    have hpos : 0 < 2 ^ f := Nat.pow_pos (by decide)
    by_cases h1 : full (inS lo hi) a (2 ^ (f + 1))
    · rw [tl_full h1]; simp <;> omega
    · by_cases h2 : bare (inS lo hi) a (2 ^ (f + 1))
      · rw [tl_bare h2]; simp
      · rw [tl_halves h1 h2, List.length_append]
        by_cases x : a + 2 ^ f ≤ hi + 1
        · have hfl : full (inS lo hi) a (2 ^ f) := fun i i1 i2 => decide_eq_true (by omega)
          have := ih (a + 2 ^ f) (by omega) (by omega)
          rw [tl_full hfl]
          cases f with
          | zero =>
            have hb : bare (inS lo hi) (a + 2 ^ 0) (2 ^ 0) := fun i i1 i2 => decide_eq_false (by
              intro hc
              apply h1
              intro j j1 j2
              have e1 : i = a + 1 := by rw [Nat.pow_zero] at i1 i2; omega
              exact decide_eq_true (by omega))
            rw [tl_bare hb]; simp
          | succ f => simp at this ⊢; omega
        · have hb : bare (inS lo hi) (a + 2 ^ f) (2 ^ f) := fun i i1 i2 => decide_eq_false (by omega)
          have := ih a (by omega) (by omega)
          rw [tl_bare hb]
          simp at this ⊢; omega
/-- A span of ports is 30 stems at the most. -/
theorem tl_few (lo hi : Nat) : ∀ (f a : Nat), f ≤ 16 → (tl (inS lo hi) f a).length ≤ max 1 (2 * f - 2) := by
  intro f
  induction f with
  | zero =>
    intro a _
    unfold tl
    split <;> simp
  | succ f ih =>
    intro a hf
    have hdbl : 2 ^ (f + 1) = 2 ^ f + 2 ^ f := by rw [Nat.pow_succ]; omega
    have hpos : 0 < 2 ^ f := Nat.pow_pos (by decide)
    by_cases h1 : full (inS lo hi) a (2 ^ (f + 1))
    · rw [tl_full h1]; simp <;> omega
    · by_cases h2 : bare (inS lo hi) a (2 ^ (f + 1))
      · rw [tl_bare h2]; simp
      · rw [tl_halves h1 h2, List.length_append]
        by_cases x : a + 2 ^ f ≤ lo
        · have hb : bare (inS lo hi) a (2 ^ f) := fun i i1 i2 => decide_eq_false (by omega)
          have := ih (a + 2 ^ f) (by omega)
          rw [tl_bare hb]
          simp at this ⊢; omega
        · by_cases y : hi < a + 2 ^ f
          · have hb : bare (inS lo hi) (a + 2 ^ f) (2 ^ f) := fun i i1 i2 => decide_eq_false (by omega)
            have := ih a (by omega)
            rw [tl_bare hb]
            simp at this ⊢; omega
          · have t1 := tl_top lo hi f a (by omega) (by omega)
            have t2 := tl_bot lo hi f (a + 2 ^ f) (by omega) (by omega)
            cases f with
            | zero =>
              exfalso
              apply h1
              intro j j1 j2
              simp at j2 x y
              exact decide_eq_true (by omega)
            | succ f => simp at t1 t2 ⊢; omega
end Go.Proofs.Ytcjpjofoddpfhaa.Xp
