/-
  PkAB: ExPlB ExA SpPlain ExPlM ExPlC ExPlR2 HdPlain TpPl PxA, one behind the other (tools/pack.py).
-/
import Derived.Test.YtfpmljgmfapoiaaPkAA
import Derived.Test.YtfpmljgmfapoiaaProg
import Derived.Laws.BitsAllLaws
/-
  What the fewest stems of a set hold, how many ports they have, how many they are for a span. No program is named here.
-/
namespace Go.Proofs.Ytfpmljgmfapoiaa.Xp
open Go.RowKit
set_option linter.unusedVariables false

/-- Does the stem (begin, length) hold the port? -/
def hos (q : Nat) (t : Nat × Nat) : Bool := decide (t.1 ≤ q ∧ q < t.1 + 2 ^ (16 - t.2))
/-- A stem that may be, within [a, a + n). -/
structure Sits (p : Nat → Bool) (a n : Nat) (t : Nat × Nat) : Prop where
  ge : a ≤ t.1
  le : t.1 + 2 ^ (16 - t.2) ≤ a + n
  len : t.2 ≤ 16
  dvd : 2 ^ (16 - t.2) ∣ t.1
  all : full p t.1 (2 ^ (16 - t.2))
theorem tl_sits (p : Nat → Bool) : ∀ (f a : Nat), f ≤ 16 → 2 ^ f ∣ a → ∀ t ∈ tl p f a, Sits p a (2 ^ f) t := by
  intro f
  induction f with
  | zero =>
    intro a hf hd t ht
    by_cases h : full p a (2 ^ 0)
    · rw [tl_full h, List.mem_singleton] at ht
      subst ht
      exact ⟨Nat.le_refl _, Nat.le_refl _, Nat.le_refl _, hd, h⟩
    · have hb : bare p a (2 ^ 0) := fun i h1 h2 => by
        have e : i = a := by rw [Nat.pow_zero] at h2; omega
        cases hp : p i
        · rfl
        · exact absurd (fun j j1 j2 => by
            have e2 : j = i := by rw [Nat.pow_zero] at j2; omega
            rw [e2]; exact hp) h
      rw [tl_bare hb] at ht; cases ht
  | succ f ih =>
    intro a hf hd t ht
    have hdbl : 2 ^ (f + 1) = 2 ^ f + 2 ^ f := by rw [Nat.pow_succ]; omega
    by_cases h1 : full p a (2 ^ (f + 1))
    · rw [tl_full h1, List.mem_singleton] at ht
      subst ht
      have e : 16 - (16 - (f + 1)) = f + 1 := by omega
      refine ⟨Nat.le_refl _, ?_, by show 16 - (f + 1) ≤ 16; omega, ?_, ?_⟩
      · show a + 2 ^ (16 - (16 - (f + 1))) ≤ _; rw [e]; exact Nat.le_refl _
      · show 2 ^ (16 - (16 - (f + 1))) ∣ a; rw [e]; exact hd
      · show full p a (2 ^ (16 - (16 - (f + 1)))); rw [e]; exact h1
    · by_cases h2 : bare p a (2 ^ (f + 1))
      · rw [tl_bare h2] at ht; cases ht
      · rw [tl_halves h1 h2, List.mem_append] at ht
        have hdf : 2 ^ f ∣ a := Nat.dvd_trans (pow_dvd_le (by omega)) hd
        rcases ht with ht | ht
        · have := ih a (by omega) hdf t ht
          exact ⟨this.ge, by have := this.le; omega, this.len, this.dvd, this.all⟩
        · have := ih (a + 2 ^ f) (by omega) (Nat.dvd_add hdf (Nat.dvd_refl _)) t ht
          exact ⟨by have := this.ge; omega, by have := this.le; omega, this.len, this.dvd, this.all⟩
/-- Each port of the set is held by one of them alone, no other one by any. -/
theorem tl_count (p : Nat → Bool) (q : Nat) : ∀ (f a : Nat), f ≤ 16 → 2 ^ f ∣ a → (tl p f a).countP (hos q) = if (decide (a ≤ q ∧ q < a + 2 ^ f) && p q) = true then 1 else 0 := by
  intro f
  induction f with
  | zero =>
    intro a hf hd
    by_cases h : p a = true
    · have hfl : full p a (2 ^ 0) := fun i h1 h2 => by
        have e : i = a := by rw [Nat.pow_zero] at h2; omega
        rw [e]; exact h
      rw [tl_full hfl, List.countP_cons, List.countP_nil]
      by_cases e : q = a
      · subst e; simp [hos, h]
      · have h1 : hos q (a, 16 - 0) = false := decide_eq_false (by show ¬ (a ≤ q ∧ q < a + 2 ^ (16 - 16)); simp; omega)
        rw [h1, if_neg (by simp), if_neg (by simp; omega)]
    · have hb : bare p a (2 ^ 0) := fun i h1 h2 => by
        have e : i = a := by rw [Nat.pow_zero] at h2; omega
        rw [e]; simpa using h
      rw [tl_bare hb, List.countP_nil, if_neg]
      rw [Bool.and_eq_true, decide_eq_true_eq]
      rintro ⟨⟨h1, h2⟩, h3⟩
      have e : q = a := by rw [Nat.pow_zero] at h2; omega
      rw [e] at h3; exact h h3
  | succ f ih =>
    intro a hf hd
    have hdbl : 2 ^ (f + 1) = 2 ^ f + 2 ^ f := by rw [Nat.pow_succ]; omega
    by_cases h1 : full p a (2 ^ (f + 1))
    · rw [tl_full h1, List.countP_cons, List.countP_nil]
      have e : 16 - (16 - (f + 1)) = f + 1 := by omega
      by_cases hq : a ≤ q ∧ q < a + 2 ^ (f + 1)
      · have h2 : hos q (a, 16 - (f + 1)) = true := decide_eq_true (by show a ≤ q ∧ q < a + 2 ^ (16 - (16 - (f + 1))); rw [e]; exact hq)
        rw [h2, h1 q hq.1 hq.2, decide_eq_true hq]; rfl
      · have h2 : hos q (a, 16 - (f + 1)) = false := decide_eq_false (by show ¬ (a ≤ q ∧ q < a + 2 ^ (16 - (16 - (f + 1)))); rw [e]; exact hq)
        rw [h2, decide_eq_false hq]; rfl
    · by_cases h2 : bare p a (2 ^ (f + 1))
      · rw [tl_bare h2, List.countP_nil, if_neg]
        rw [Bool.and_eq_true, decide_eq_true_eq]
        rintro ⟨⟨h3, h4⟩, h5⟩
        rw [h2 q h3 h4] at h5; cases h5
      · have hdf : 2 ^ f ∣ a := Nat.dvd_trans (pow_dvd_le (by omega)) hd
        rw [tl_halves h1 h2, List.countP_append, ih a (by omega) hdf, ih (a + 2 ^ f) (by omega) (Nat.dvd_add hdf (Nat.dvd_refl _))]
        by_cases hp : p q = true
        · rw [hp]
          simp only [Bool.and_true, decide_eq_true_eq]
          by_cases x1 : a ≤ q ∧ q < a + 2 ^ f
          · rw [if_pos x1, if_neg (by omega), if_pos (by omega)]
          · rw [if_neg x1]
            by_cases x2 : a + 2 ^ f ≤ q ∧ q < a + 2 ^ f + 2 ^ f
            · rw [if_pos x2, if_pos (by omega)]
            · rw [if_neg x2, if_neg (by omega)]
        · rw [show p q = false by simpa using hp]
          simp
/-- A span's ports. -/
def inS (lo hi i : Nat) : Bool := decide (lo ≤ i ∧ i ≤ hi)
theorem tl_top (lo hi : Nat) : ∀ (f a : Nat), f ≤ 16 → a + 2 ^ f ≤ hi + 1 → (tl (inS lo hi) f a).length ≤ max 1 f := by
  intro f
  induction f with
  | zero =>
    intro a _ _
    unfold tl
    split <;> simp
  | succ f ih =>
    intro a hf h
    have hdbl : 2 ^ (f + 1) = 2 ^ f + 2 ^ f := by rw [Nat.pow_succ]; omega
    have hpos : 0 < 2 ^ f := Nat.pow_pos (by decide)
    by_cases h1 : full (inS lo hi) a (2 ^ (f + 1))
    · rw [tl_full h1]; simp <;> omega
    · by_cases h2 : bare (inS lo hi) a (2 ^ (f + 1))
      · rw [tl_bare h2]; simp
      · rw [tl_halves h1 h2, List.length_append]
        by_cases x : lo ≤ a + 2 ^ f
        · have hfl : full (inS lo hi) (a + 2 ^ f) (2 ^ f) := fun i i1 i2 => decide_eq_true (by omega)
          have := ih a (by omega) (by omega)
          rw [tl_full hfl]
          cases f with
          | zero =>
            have hb : bare (inS lo hi) a (2 ^ 0) := fun i i1 i2 => decide_eq_false (by
              intro hc
              apply h1
              intro j j1 j2
              have e1 : i = a := by rw [Nat.pow_zero] at i2; omega
              exact decide_eq_true (by omega))
            rw [tl_bare hb]; simp
          | succ f => simp at this ⊢; omega
        · have hb : bare (inS lo hi) a (2 ^ f) := fun i i1 i2 => decide_eq_false (by omega)
          have := ih (a + 2 ^ f) (by omega) (by omega)
          rw [tl_bare hb]
          simp at this ⊢; omega
theorem tl_bot (lo hi : Nat) : ∀ (f a : Nat), f ≤ 16 → lo ≤ a → (tl (inS lo hi) f a).length ≤ max 1 f := by
  intro f
  induction f with
  | zero =>
    intro a _ _
    unfold tl
    split <;> simp
  | succ f ih =>
    intro a hf h
    have hdbl : 2 ^ (f + 1) = 2 ^ f + 2 ^ f := by rw [Nat.pow_succ]; omega
    have hpos : 0 < 2 ^ f := Nat.pow_pos (by decide)
    by_cases h1 : full (inS lo hi) a (2 ^ (f + 1))
    · rw [tl_full h1]; simp <;> omega
    · by_cases h2 : bare (inS lo hi) a (2 ^ (f + 1))
      · rw [tl_bare h2]; simp
      · rw [tl_halves h1 h2, List.length_append]
        by_cases x : a + 2 ^ f ≤ hi + 1
        · have hfl : full (inS lo hi) a (2 ^ f) := fun i i1 i2 => decide_eq_true (by omega)
          have := ih (a + 2 ^ f) (by omega) (by omega)
          rw [tl_full hfl]
          cases f with
          | zero =>
            have hb : bare (inS lo hi) (a + 2 ^ 0) (2 ^ 0) := fun i i1 i2 => decide_eq_false (by
              intro hc
              apply h1
              intro j j1 j2
              have e1 : i = a + 1 := by rw [Nat.pow_zero] at i1 i2; omega
              exact decide_eq_true (by omega))
            rw [tl_bare hb]; simp
          | succ f => simp at this ⊢; omega
        · have hb : bare (inS lo hi) (a + 2 ^ f) (2 ^ f) := fun i i1 i2 => decide_eq_false (by omega)
          have := ih a (by omega) (by omega)
          rw [tl_bare hb]
          simp at this ⊢; omega
/-- A span of ports is 30 stems at the most. -/
theorem tl_few (lo hi : Nat) : ∀ (f a : Nat), f ≤ 16 → (tl (inS lo hi) f a).length ≤ max 1 (2 * f - 2) := by
  intro f
  induction f with
  | zero =>
    intro a _
    unfold tl
    split <;> simp
  | succ f ih =>
    intro a hf
    have hdbl : 2 ^ (f + 1) = 2 ^ f + 2 ^ f := by rw [Nat.pow_succ]; omega
    have hpos : 0 < 2 ^ f := Nat.pow_pos (by decide)
    by_cases h1 : full (inS lo hi) a (2 ^ (f + 1))
    · rw [tl_full h1]; simp <;> omega
    · by_cases h2 : bare (inS lo hi) a (2 ^ (f + 1))
      · rw [tl_bare h2]; simp
      · rw [tl_halves h1 h2, List.length_append]
        by_cases x : a + 2 ^ f ≤ lo
        · have hb : bare (inS lo hi) a (2 ^ f) := fun i i1 i2 => decide_eq_false (by omega)
          have := ih (a + 2 ^ f) (by omega)
          rw [tl_bare hb]
          simp at this ⊢; omega
        · by_cases y : hi < a + 2 ^ f
          · have hb : bare (inS lo hi) (a + 2 ^ f) (2 ^ f) := fun i i1 i2 => decide_eq_false (by omega)
            have := ih a (by omega)
            rw [tl_bare hb]
            simp at this ⊢; omega
          · have t1 := tl_top lo hi f a (by omega) (by omega)
            have t2 := tl_bot lo hi f (a + 2 ^ f) (by omega) (by omega)
            cases f with
            | zero =>
              exfalso
              apply h1
              intro j j1 j2
              simp at j2 x y
              exact decide_eq_true (by omega)
            | succ f => simp at t1 t2 ⊢; omega
end Go.Proofs.Ytfpmljgmfapoiaa.Xp
/-
  Stems: what the small functions of the document's answer hand back (May, Check, Has, Span); one contract a function, for every world.
-/
namespace Go.Proofs.Ytfpmljgmfapoiaa.Xp
open Go.RowKit
set_option linter.unusedVariables false
set_option linter.unusedSimpArgs false

/-- The bit i of a number of 16 bits, counted from its first. -/
def bt (b i : Nat) : Nat := b / 2 ^ (15 - i) % 2
end Go.Proofs.Ytfpmljgmfapoiaa.Xp
/-
  Sets of ports as spans: a list of spans that rises and leaves a port between each two is the only such list of its set; the union, the gaps, counts. No program is named here.
-/
namespace Go.Proofs.Ytfpmljgmfapoiaa.Xp
set_option linter.unusedVariables false
set_option linter.unusedSimpArgs false

def hasB (s : Nat × Nat) (i : Nat) : Bool := decide (s.1 ≤ i) && decide (i ≤ s.2)
def memB (l : List (Nat × Nat)) (i : Nat) : Bool := l.any fun s => hasB s i
theorem hasB_iff (s : Nat × Nat) (i : Nat) : hasB s i = true ↔ s.1 ≤ i ∧ i ≤ s.2 := by simp [hasB]
theorem memB_nil (i : Nat) : memB [] i = false := rfl
theorem memB_cons (s : Nat × Nat) (l : List (Nat × Nat)) (i : Nat) : memB (s :: l) i = (hasB s i || memB l i) := rfl
/-- Rising, a port between each two, from k on. -/
def Canon : Nat → List (Nat × Nat) → Prop
  | _, [] => True
  | k, s :: l => k ≤ s.1 ∧ s.1 ≤ s.2 ∧ s.2 < 65536 ∧ Canon (s.2 + 2) l
theorem Canon.from {l : List (Nat × Nat)} {k i : Nat} (h : Canon k l) (hi : memB l i = true) : k ≤ i ∧ i < 65536 := by
  induction l generalizing k with
  | nil => cases hi
  | cons s l ih =>
    obtain ⟨h1, h2, h3, h4⟩ := h
    rw [memB_cons, Bool.or_eq_true, hasB_iff] at hi
    rcases hi with hi | hi
    · omega
    · have := ih h4 hi; omega
theorem Canon.each {l : List (Nat × Nat)} {k : Nat} (h : Canon k l) : ∀ s ∈ l, k ≤ s.1 ∧ s.1 ≤ s.2 ∧ s.2 < 65536 := by
  induction l generalizing k with
  | nil => intro s hs; cases hs
  | cons t l ih =>
    obtain ⟨h1, h2, h3, h4⟩ := h
    intro s hs
    rcases List.mem_cons.1 hs with rfl | hs
    · exact ⟨h1, h2, h3⟩
    · have := ih h4 s hs; omega
/-- How many ports below n. -/
def cnt (p : Nat → Bool) : Nat → Nat
  | 0 => 0
  | n + 1 => cnt p n + (if p n then 1 else 0)
end Go.Proofs.Ytfpmljgmfapoiaa.Xp
/-
  Two stems: one holds all of the other one, or they share no port.
-/
namespace Go.Proofs.Ytfpmljgmfapoiaa.Xp
open Go.RowKit
set_option linter.unusedVariables false

end Go.Proofs.Ytfpmljgmfapoiaa.Xp
/-
  The fewest stems of a span, and of spans apart: by taking the greatest stem that begins where one stands and ends within the span. No program is named here.
-/
namespace Go.Proofs.Ytfpmljgmfapoiaa.Xp
open Go.RowKit
set_option linter.unusedVariables false

/-- The greatest f up to k, for which 2 ^ f ports from a on are a stem within n ports. -/
def mf (a n : Nat) : Nat → Nat
  | 0 => 0
  | f + 1 => if a % 2 ^ (f + 1) = 0 ∧ 2 ^ (f + 1) ≤ n then f + 1 else mf a n f
theorem mf_is (a n : Nat) (hn : 0 < n) : ∀ k, mf a n k ≤ k ∧ 2 ^ mf a n k ∣ a ∧ 2 ^ mf a n k ≤ n ∧ ∀ g, mf a n k < g → g ≤ k → ¬ (2 ^ g ∣ a ∧ 2 ^ g ≤ n)
  | 0 => ⟨Nat.le_refl _, ⟨a, by show a = 2 ^ 0 * a; rw [Nat.pow_zero, Nat.one_mul]⟩, by show 2 ^ 0 ≤ n; rw [Nat.pow_zero]; omega, fun g h1 h2 => absurd h1 (by omega)⟩
  | k + 1 => by
    obtain ⟨h1, h2, h3, h4⟩ := mf_is a n hn k
    unfold mf
    split
    · rename_i h
      exact ⟨Nat.le_refl _, Nat.dvd_of_mod_eq_zero h.1, h.2, fun g h1 h2 => absurd h1 (by omega)⟩
    · rename_i h
      refine ⟨by omega, h2, h3, fun g g1 g2 => ?_⟩
      by_cases hg : g ≤ k
      · exact h4 g g1 hg
      · obtain rfl : g = k + 1 := by omega
        exact fun hc => h ⟨Nat.mod_eq_zero_of_dvd hc.1, hc.2⟩
/-- The greatest f is the one that is found. -/
theorem mf_uniq {a n f : Nat} (hn : 0 < n) (h1 : f ≤ 16) (h2 : 2 ^ f ∣ a) (h3 : 2 ^ f ≤ n) (h4 : f = 16 ∨ ¬ (2 ^ (f + 1) ∣ a ∧ 2 ^ (f + 1) ≤ n)) : mf a n 16 = f := by
  obtain ⟨m1, m2, m3, m4⟩ := mf_is a n hn 16
  rcases Nat.lt_trichotomy (mf a n 16) f with h | h | h
  · exact absurd ⟨h2, h3⟩ (m4 f h h1)
  · exact h
  · rcases h4 with rfl | h4
    · omega
    · exact absurd ⟨Nat.dvd_trans (pow_dvd_le (by omega)) m2, Nat.le_trans (pow_le (by omega)) m3⟩ h4
/-- The stems of the n ports from a on, at most k of them. -/
def grd : Nat → Nat → Nat → List (Nat × Nat)
  | 0, _, _ => []
  | k + 1, a, n => if n = 0 then [] else (a, 16 - mf a n 16) :: grd k (a + 2 ^ mf a n 16) (n - 2 ^ mf a n 16)
theorem grd_zero (k a : Nat) : grd k a 0 = [] := by cases k <;> rfl
theorem grd_succ (k a n : Nat) (h : 0 < n) : grd (k + 1) a n = (a, 16 - mf a n 16) :: grd k (a + 2 ^ mf a n 16) (n - 2 ^ mf a n 16) := by
  show (if n = 0 then _ else _) = _
  rw [if_neg (by omega)]
theorem isMax_run {p : Nat → Bool} {a n : Nat} (h0 : 0 < n) (hf : full p a n) (he : p (a + n) = false ∨ a + n = 65536) (hb : a + n ≤ 65536) : IsMax p a (mf a n 16) := by
  obtain ⟨h1, h2, h3, h4⟩ := mf_is a n h0 16
  refine ⟨h1, h2, full_le hf h3, ?_⟩
  rintro ⟨g1, g2, g3⟩
  have hx := h4 _ (Nat.lt_succ_self _) (by omega)
  have hlt : n < 2 ^ (mf a n 16 + 1) := by
    apply Nat.lt_of_not_le
    exact fun hc => hx ⟨g2, hc⟩
  rcases he with he | he
  · have := g3 (a + n) (by omega) (by omega)
    rw [he] at this; cases this
  · obtain ⟨c, hc⟩ := g2
    obtain ⟨d, hd⟩ : 2 ^ (mf a n 16 + 1) ∣ 65536 := pow_dvd_le (f := mf a n 16 + 1) (g := 16) (by omega)
    generalize 2 ^ (mf a n 16 + 1) = z at *
    subst hc
    have hcd : c < d := by
      have : z * c < z * d := by omega
      exact Nat.lt_of_mul_lt_mul_left this
    have := Nat.mul_le_mul_left z hcd
    rw [Nat.mul_succ] at this
    omega
theorem tiles_run {p : Nat → Bool} {b : Nat} {l : List (Nat × Nat)} : ∀ (k a n : Nat), n ≤ k → full p a n → (p (a + n) = false ∨ a + n = 65536) → a + n ≤ 65536 → a + n ≤ b → Tiles p (a + n) b l → Tiles p a b (grd k a n ++ l)
  | 0, a, n, hk, _, _, _, _, ht => by
    obtain rfl : n = 0 := by omega
    exact ht
  | k + 1, a, n, hk, hf, he, hb, hbb, ht => by
    by_cases h0 : n = 0
    · subst h0; rw [grd_zero]; exact ht
    · have hn : 0 < n := by omega
      rw [grd_succ k a n hn]
      have hm := isMax_run hn hf he hb
      obtain ⟨h1, h2, h3, h4⟩ := mf_is a n hn 16
      generalize mf a n 16 = f at *
      have hp : 0 < 2 ^ f := Nat.pow_pos (by decide)
      have e : a + 2 ^ f + (n - 2 ^ f) = a + n := by omega
      exact .take hm (by omega) (tiles_run k (a + 2 ^ f) (n - 2 ^ f) (by omega) (fun i i1 i2 => hf i (by omega) (by omega)) (by rw [e]; exact he) (by omega) (by omega) (by rw [e]; exact ht))
/-- The fewest stems of spans apart. -/
def grds (l : List (Nat × Nat)) : List (Nat × Nat) := l.flatMap fun s => grd 65536 s.1 (s.2 + 1 - s.1)
theorem tiles_canon {p : Nat → Bool} : ∀ (l : List (Nat × Nat)) (k : Nat), Canon k l → k ≤ 65537 → (∀ i, i < 65536 → k ≤ i → p i = memB l i) → (∀ j, k = j + 1 → j < 65536 → p j = false) → Tiles p (min k 65536) 65536 (grds l)
  | [], k, _, hk, hp, _ => by
    have hb : bare p (min k 65536) (65536 - min k 65536) := fun i h1 h2 => by rw [hp i (by omega) (by omega)]; rfl
    rw [Tiles.skips (65536 - min k 65536) _ hb (by omega), show min k 65536 + (65536 - min k 65536) = 65536 by omega]
    exact .done _
  | s :: l, k, hc, hk, hp, hj => by
    obtain ⟨c1, c2, c3, c4⟩ := hc
    have hs1 : ∀ i, i < 65536 → s.1 ≤ i → i ≤ s.2 → p i = true := fun i h1 h2 h3 => by rw [hp i h1 (by omega), memB_cons, (hasB_iff s i).2 ⟨h2, h3⟩]; rfl
    have hs0 : ∀ i, i < 65536 → k ≤ i → i < s.1 → p i = false := fun i h1 h2 h3 => by
      rw [hp i h1 h2, memB_cons]
      have : hasB s i = false := by rw [← Bool.not_eq_true, hasB_iff]; omega
      rw [this, Bool.false_or, ← Bool.not_eq_true]
      intro hm
      have := (c4.from hm).1
      omega
    have hn : ∀ i, i < 65536 → i = s.2 + 1 → p i = false := fun i h1 h2 => by
      rw [hp i h1 (by omega), memB_cons]
      have : hasB s i = false := by rw [← Bool.not_eq_true, hasB_iff]; omega
      rw [this, Bool.false_or, ← Bool.not_eq_true]
      intro hm
      have := (c4.from hm).1
      omega
    have ih := tiles_canon l (s.2 + 2) c4 (by omega) (fun i h1 h2 => by
      rw [hp i h1 (by omega), memB_cons]
      have : hasB s i = false := by rw [← Bool.not_eq_true, hasB_iff]; omega
      rw [this, Bool.false_or]) (fun j e hj => hn j hj (by omega))
    have ih2 : Tiles p (s.2 + 1) 65536 (grds l) := by
      by_cases h : s.2 + 1 < 65536
      · rw [show min (s.2 + 2) 65536 = s.2 + 1 + 1 by omega] at ih
        exact .skip h (hn _ h rfl) ih
      · rw [show min (s.2 + 2) 65536 = s.2 + 1 by omega] at ih
        exact ih
    have hr := tiles_run (p := p) (b := 65536) (l := grds l) 65536 s.1 (s.2 + 1 - s.1) (by omega) (fun i h1 h2 => hs1 i (by omega) (by omega) (by omega))
      (by
        rw [show s.1 + (s.2 + 1 - s.1) = s.2 + 1 by omega]
        by_cases h : s.2 + 1 < 65536
        · exact .inl (hn _ h rfl)
        · exact .inr (by omega)) (by omega) (by omega) (by rw [show s.1 + (s.2 + 1 - s.1) = s.2 + 1 by omega]; exact ih2)
    rw [show min k 65536 = k by omega]
    have hbr : bare p k (s.1 - k) := fun i h1 h2 => hs0 i (by omega) h1 (by omega)
    rw [Tiles.skips (s.1 - k) k hbr (by omega), show k + (s.1 - k) = s.1 by omega]
    exact hr
/-- The fewest stems of a set, by its spans. -/
theorem tl_canon {p : Nat → Bool} {l : List (Nat × Nat)} (hc : Canon 0 l) (hp : ∀ i, i < 65536 → p i = memB l i) : tl p 16 0 = grds l :=
  (Tiles.is (by have := tiles_canon (p := p) l 0 hc (by omega) (fun i h _ => hp i h) (fun j e _ => by omega); simpa using this)).symm
theorem tl_span {lo hi : Nat} (h1 : lo ≤ hi) (h2 : hi < 65536) : tl (hasB (lo, hi)) 16 0 = grd 65536 lo (hi + 1 - lo) := by
  rw [tl_canon (l := [(lo, hi)]) ⟨Nat.zero_le _, h1, h2, trivial⟩ (fun i _ => by simp [memB_cons, memB_nil])]
  simp [grds]
end Go.Proofs.Ytfpmljgmfapoiaa.Xp
/-
  How many stems a span has.
-/
namespace Go.Proofs.Ytfpmljgmfapoiaa.Xp
open Go.RowKit
set_option linter.unusedVariables false

theorem inS_is (lo hi : Nat) : inS lo hi = hasB (lo, hi) := by
  funext i
  rw [Bool.eq_iff_iff, hasB_iff]
  simp [inS]
theorem ofS_len {lo hi : Nat} : (tl (hasB (lo, hi)) 16 0).length ≤ 30 := by
  have := tl_few lo hi 16 0 (by decide)
  rw [inS_is] at this
  exact this
theorem ofS_count {lo hi : Nat} (q : Nat) (hq : q < 65536) : (tl (hasB (lo, hi)) 16 0).countP (hos q) = if hasB (lo, hi) q = true then 1 else 0 := by
  rw [tl_count (hasB (lo, hi)) q 16 0 (Nat.le_refl _) ⟨0, by simp⟩]
  have : decide (0 ≤ q ∧ q < 0 + 2 ^ 16) = true := decide_eq_true ⟨Nat.zero_le _, by omega⟩
  rw [this, Bool.true_and]
end Go.Proofs.Ytfpmljgmfapoiaa.Xp
/-
  Headers, their bytes and bits: plain mathematics. No program is named here.
-/
namespace Go.Proofs.Ytfpmljgmfapoiaa.Hx
set_option linter.unusedVariables false

/-- A header's five fields. -/
structure Hd where
  s : Nat
  d : Nat
  p : Nat
  q : Nat
  r : Nat
  deriving DecidableEq
def OkH (h : Hd) : Prop := h.s < 4294967296 ∧ h.d < 4294967296 ∧ h.p < 65536 ∧ h.q < 65536 ∧ h.r < 256
def h0 : Hd := ⟨0, 0, 0, 0, 0⟩
/-- The header as one number. -/
def val (h : Hd) : Nat := h.s * 4722366482869645213696 + h.d * 1099511627776 + h.p * 16777216 + h.q * 256 + h.r
/-- The number of some bytes. -/
def num (l : List Nat) : Nat := l.foldl (fun n b => 256 * n + b) 0
end Go.Proofs.Ytfpmljgmfapoiaa.Hx
/-
  Where rules stand in a space of tuples, as plain mathematics: tuples, spots, what a header finds. No program is named here.
-/
namespace Go.Proofs.Ytfpmljgmfapoiaa
open Go.RowKit
set_option linter.unusedVariables false
set_option linter.unusedSimpArgs false

/-- Which bits of a header are cared for: the lengths of the prefixes and of the stems, the mask's care. -/
structure Tp where
  a : Int
  b : Int
  c : Nat
  d : Nat
  m : Nat
  deriving DecidableEq
def stm (s : Nat × Nat) : List (Nat × Nat) := Xp.tl (Xp.hasB s) 16 0
def spR (R : Ru) : List (Tp × Hx.Hd) :=
  (stm R.p).flatMap fun s => (stm R.q).map fun t => (⟨R.sl, R.dl, s.2, t.2, R.m.2⟩, ⟨R.s, R.d, s.1, t.1, R.m.1⟩)
def cutP (n x : Nat) : Nat := x - x % 2 ^ (16 - n)
def cutH (t : Tp) (h : Hd) : Hx.Hd := ⟨Pf.oA h.s t.a, Pf.oA h.d t.b, cutP t.c h.p, cutP t.d h.q, h.r &&& t.m⟩

theorem stm_sits {s : Nat × Nat} : ∀ t ∈ stm s, t.2 ≤ 16 ∧ 2 ^ (16 - t.2) ∣ t.1 ∧ t.1 + 2 ^ (16 - t.2) ≤ 65536 := fun t ht => by
  have := Xp.tl_sits (Xp.hasB s) 16 0 (Nat.le_refl _) ⟨0, by simp⟩ t ht
  exact ⟨this.len, this.dvd, by have := this.le; omega⟩
theorem stm_bd {s : Nat × Nat} {t : Nat × Nat} (h : t ∈ stm s) : t.1 < 65536 ∧ t.2 ≤ 16 := by
  obtain ⟨h1, h2, h3⟩ := stm_sits t h
  have : 0 < 2 ^ (16 - t.2) := Nat.two_pow_pos _
  exact ⟨by omega, h1⟩
theorem cutP_hos {t : Nat × Nat} {q : Nat} (hd : 2 ^ (16 - t.2) ∣ t.1) : (cutP t.2 q = t.1) ↔ Xp.hos q t = true := by
  unfold Xp.hos cutP
  rw [decide_eq_true_eq]
  have hK : 0 < 2 ^ (16 - t.2) := Nat.two_pow_pos _
  generalize 2 ^ (16 - t.2) = K at *
  obtain ⟨c, hc⟩ := hd
  have h1 := Nat.mod_lt q hK
  have h2 := Nat.mod_add_div q K
  have e : q - q % K = K * (q / K) := by omega
  rw [e, hc]
  constructor
  · intro h; omega
  · rintro ⟨h3, h4⟩
    have h5 : q / K = c := by
      rw [Nat.div_eq_iff hK]
      constructor
      · rw [Nat.mul_comm]; omega
      · rw [Nat.mul_comm]; omega
    rw [h5]
theorem stm_count {s : Nat × Nat} {q : Nat} (hq : q < 65536) : (stm s).countP (fun t => decide (cutP t.2 q = t.1)) = if hasI s q = true then 1 else 0 := by
  have e : (stm s).countP (fun t => decide (cutP t.2 q = t.1)) = (stm s).countP (Xp.hos q) := by
    refine List.countP_congr fun t ht => ?_
    rw [decide_eq_true_eq]
    exact cutP_hos (stm_sits t ht).2.1
  rw [e]
  have := Xp.ofS_count (lo := s.1) (hi := s.2) q hq
  unfold stm
  rw [this]
  have h : Xp.hasB (s.1, s.2) q = hasI s q := by
    unfold Xp.hasB hasI
    simp [Bool.decide_and]
  rw [h]
theorem sum_if {α : Type} (c : α → Bool) (K : Nat) : ∀ l : List α, (l.map fun s => if c s = true then K else 0).sum = K * l.countP c
  | [] => by simp
  | s :: l => by
    simp only [List.map_cons, List.sum_cons, sum_if c K l, List.countP_cons]
    cases c s <;> simp [Nat.mul_add, Nat.add_comm]
/-- A header finds a rule at one spot, if it matches it, else at none. -/
theorem sp_count {R : Ru} {h : Hd} (o : OkH h) (hR : okR R = true) : (spR R).countP (fun x => decide (cutH x.1 h = x.2)) = if matchR R h = true then 1 else 0 := by
  obtain ⟨_, c1, c2, _, _, _, _⟩ := (okR_iff R).1 hR
  obtain ⟨_, _, hp, hq, _⟩ := o
  have key : ∀ s t : Nat × Nat, decide (cutH ⟨R.sl, R.dl, s.2, t.2, R.m.2⟩ h = ⟨R.s, R.d, s.1, t.1, R.m.1⟩) = ((Pf.hasB R.s R.sl h.s && Pf.hasB R.d R.dl h.d && hasM R.m.1 R.m.2 h.r) && decide (cutP s.2 h.p = s.1) && decide (cutP t.2 h.q = t.1)) := fun s t => by
    have l1 : ¬ (R.sl < 0 ∨ 32 < R.sl) := fun e => by unfold Pf.chk at c1; rw [if_pos e] at c1; cases c1
    have l2 : ¬ (R.dl < 0 ∨ 32 < R.dl) := fun e => by unfold Pf.chk at c2; rw [if_pos e] at c2; cases c2
    rw [Bool.eq_iff_iff]
    simp only [decide_eq_true_eq, Bool.and_eq_true, cutH, Hx.Hd.mk.injEq, Pf.hasB, hasM, Pf.oA, if_neg l1, if_neg l2, c1, c2, true_and]
    constructor
    · rintro ⟨a, b, c, d, e⟩; exact ⟨⟨⟨⟨a, b⟩, e⟩, c⟩, d⟩
    · rintro ⟨⟨⟨⟨a, b⟩, e⟩, c⟩, d⟩; exact ⟨a, b, c, d, e⟩
  rw [match_in hR]
  generalize hG : (Pf.hasB R.s R.sl h.s && Pf.hasB R.d R.dl h.d && hasM R.m.1 R.m.2 h.r) = G at key
  have e1 : (spR R).countP (fun x => decide (cutH x.1 h = x.2)) = ((stm R.p).map fun s => if (G && decide (cutP s.2 h.p = s.1)) = true then (stm R.q).countP (fun t => decide (cutP t.2 h.q = t.1)) else 0).sum := by
    unfold spR
    rw [List.countP_flatMap]
    congr 1
    refine List.map_congr_left fun s hs => ?_
    simp only [Function.comp, List.countP_map]
    by_cases hc : (G && decide (cutP s.2 h.p = s.1)) = true
    · rw [if_pos hc]
      refine List.countP_congr fun t ht => ?_
      simp only [Function.comp, key, hc, Bool.true_and]
    · rw [if_neg hc, List.countP_eq_zero]
      intro t ht
      simp only [Function.comp, key]
      simp only [Bool.not_eq_true] at hc
      rw [hc]; simp
  rw [e1, sum_if, stm_count hq]
  have e2 : (stm R.p).countP (fun s => G && decide (cutP s.2 h.p = s.1)) = if (G && hasI R.p h.p) = true then 1 else 0 := by
    cases G with
    | false => simp
    | true => simpa using stm_count (s := R.p) hp
  rw [e2]
  have e3 : (Pf.hasB R.s R.sl h.s && Pf.hasB R.d R.dl h.d && hasI R.p h.p && hasI R.q h.q && hasM R.m.1 R.m.2 h.r) = ((G && hasI R.p h.p) && hasI R.q h.q) := by
    rw [← hG]
    cases Pf.hasB R.s R.sl h.s <;> cases Pf.hasB R.d R.dl h.d <;> cases hasI R.p h.p <;> cases hasI R.q h.q <;> cases hasM R.m.1 R.m.2 h.r <;> rfl
  rw [e3]
  cases (G && hasI R.p h.p) <;> cases hasI R.q h.q <;> simp
theorem sp_match {R : Ru} {h : Hd} (o : OkH h) (hR : okR R = true) : matchR R h = true ↔ ∃ x ∈ spR R, cutH x.1 h = x.2 := by
  have h1 := sp_count o hR
  constructor
  · intro hm
    rw [if_pos hm] at h1
    obtain ⟨x, hx, e⟩ := List.countP_pos_iff.1 (show 0 < (spR R).countP (fun x => decide (cutH x.1 h = x.2)) by omega)
    exact ⟨x, hx, of_decide_eq_true e⟩
  · rintro ⟨x, hx, e⟩
    by_cases hm : matchR R h = true
    · exact hm
    · rw [if_neg hm] at h1
      exact absurd (decide_eq_true e) ((List.countP_eq_zero.1 h1) x hx)
theorem sp_uniq {R : Ru} {h : Hd} (o : OkH h) (hR : okR R = true) {x y : Tp × Hx.Hd} (hx : x ∈ spR R) (hy : y ∈ spR R) (ex : cutH x.1 h = x.2) (ey : cutH y.1 h = y.2) : x = y := by
  have h1 := sp_count o hR
  have h2 : ((spR R).filter fun x => decide (cutH x.1 h = x.2)).length ≤ 1 := by
    rw [← List.countP_eq_length_filter, h1]; split <;> omega
  have mx : x ∈ (spR R).filter fun x => decide (cutH x.1 h = x.2) := List.mem_filter.2 ⟨hx, decide_eq_true ex⟩
  have my : y ∈ (spR R).filter fun x => decide (cutH x.1 h = x.2) := List.mem_filter.2 ⟨hy, decide_eq_true ey⟩
  generalize (spR R).filter (fun x => decide (cutH x.1 h = x.2)) = F at *
  match F, h2 with
  | [], _ => cases mx
  | [z], _ =>
    rw [List.mem_singleton] at mx my
    rw [mx, my]
  | _ :: _ :: _, h2 => simp at h2
theorem sp_len (R : Ru) : (spR R).length = (stm R.p).length * (stm R.q).length := by
  unfold spR
  rw [List.length_flatMap]
  simp only [List.length_map]
  have : ∀ l : List (Nat × Nat), (l.map fun _ => (stm R.q).length).sum = l.length * (stm R.q).length := fun l => by
    induction l with
    | nil => simp
    | cons a l ih => simp only [List.map_cons, List.sum_cons, ih, List.length_cons, Nat.add_mul]; omega
  exact this _
theorem sp_le (R : Ru) : (spR R).length ≤ 900 := by
  rw [sp_len]
  exact Nat.mul_le_mul (Xp.ofS_len (lo := R.p.1) (hi := R.p.2)) (Xp.ofS_len (lo := R.q.1) (hi := R.q.2))
/-- The bounds of a spot's parts. -/
def BdT (t : Tp) : Prop := 0 ≤ t.a ∧ t.a ≤ 32 ∧ 0 ≤ t.b ∧ t.b ≤ 32 ∧ t.c ≤ 16 ∧ t.d ≤ 16 ∧ t.m < 256
theorem sp_bd {R : Ru} (hR : okR R = true) (b : BdR R) : ∀ x ∈ spR R, BdT x.1 ∧ Hx.OkH x.2 := fun x hx => by
  obtain ⟨_, c1, c2, _, _, _, _⟩ := (okR_iff R).1 hR
  have l1 : ¬ (R.sl < 0 ∨ 32 < R.sl) := fun e => by unfold Pf.chk at c1; rw [if_pos e] at c1; cases c1
  have l2 : ¬ (R.dl < 0 ∨ 32 < R.dl) := fun e => by unfold Pf.chk at c2; rw [if_pos e] at c2; cases c2
  unfold spR at hx
  obtain ⟨s, hs, hx⟩ := List.mem_flatMap.1 hx
  obtain ⟨t, ht, rfl⟩ := List.mem_map.1 hx
  have h1 := stm_bd hs
  have h2 := stm_bd ht
  obtain ⟨b1, b2, _, _, _, _, b3, b4, _⟩ := b
  exact ⟨⟨by show 0 ≤ R.sl; omega, by show R.sl ≤ 32; omega, by show 0 ≤ R.dl; omega, by show R.dl ≤ 32; omega, h1.2, h2.2, b4⟩, b1, b2, h1.1, h2.1, b3⟩

/-- All that stand in the tables of a list, in the order in which they are put. -/
def allS (l : List Ru) : List ((Tp × Hx.Hd) × Int) := l.flatMap fun R => (spR R).map fun x => (x, R.i)
/-- What stands in the table of a tuple under a header, if A was put. -/
def con (A : List ((Tp × Hx.Hd) × Int)) (t : Tp) (k : Hx.Hd) : List Int := (A.filter fun y => decide (y.1 = (t, k))).map (·.2)
/-- How many entries the table of a tuple has. -/
def ent (A : List ((Tp × Hx.Hd) × Int)) (t : Tp) : Nat := A.countP fun y => decide (y.1.1 = t)
theorem con_snoc (A : List ((Tp × Hx.Hd) × Int)) (y : (Tp × Hx.Hd) × Int) (t : Tp) (k : Hx.Hd) : con (A ++ [y]) t k = if y.1 = (t, k) then con A t k ++ [y.2] else con A t k := by
  unfold con
  rw [List.filter_append, List.map_append]
  by_cases h : y.1 = (t, k)
  · simp [h]
  · simp [h]
theorem ent_snoc (A : List ((Tp × Hx.Hd) × Int)) (y : (Tp × Hx.Hd) × Int) (t : Tp) : ent (A ++ [y]) t = if y.1.1 = t then ent A t + 1 else ent A t := by
  unfold ent
  rw [List.countP_append]
  by_cases h : y.1.1 = t
  · simp [h]
  · simp [h]
theorem ent_le (A : List ((Tp × Hx.Hd) × Int)) (t : Tp) : ent A t ≤ A.length := List.countP_le_length
theorem ent_pos {A : List ((Tp × Hx.Hd) × Int)} {t : Tp} : 0 < ent A t ↔ ∃ y ∈ A, y.1.1 = t := by
  unfold ent
  rw [List.countP_pos_iff]
  constructor
  · rintro ⟨y, h1, h2⟩; exact ⟨y, h1, of_decide_eq_true h2⟩
  · rintro ⟨y, h1, h2⟩; exact ⟨y, h1, decide_eq_true h2⟩
theorem allS_snoc (l : List Ru) (R : Ru) : allS (l ++ [R]) = allS l ++ (spR R).map fun x => (x, R.i) := by
  unfold allS; rw [List.flatMap_append]; simp
theorem allS_len (l : List Ru) : (allS l).length = (l.map fun R => (spR R).length).sum := by
  unfold allS; rw [List.length_flatMap]; simp
theorem allS_le (l : List Ru) : (allS l).length ≤ l.length * 900 := by
  rw [allS_len]
  induction l with
  | nil => simp
  | cons R l ih =>
    have := sp_le R
    simp only [List.map_cons, List.sum_cons, List.length_cons]; omega
/-- The tuples of a rule. -/
def tpR (R : Ru) : List Tp := (spR R).map (·.1)
theorem ent_all {l : List Ru} {t : Tp} : 0 < ent (allS l) t ↔ ∃ R ∈ l, t ∈ tpR R := by
  rw [ent_pos]
  unfold allS tpR
  constructor
  · rintro ⟨y, hy, rfl⟩
    obtain ⟨R, hR, hy⟩ := List.mem_flatMap.1 hy
    obtain ⟨x, hx, rfl⟩ := List.mem_map.1 hy
    exact ⟨R, hR, List.mem_map.2 ⟨x, hx, rfl⟩⟩
  · rintro ⟨R, hR, ht⟩
    obtain ⟨x, hx, rfl⟩ := List.mem_map.1 ht
    exact ⟨_, List.mem_flatMap.2 ⟨R, hR, List.mem_map.2 ⟨x, hx, rfl⟩⟩, rfl⟩
theorem con_cons (R : Ru) (l : List Ru) (t : Tp) (k : Hx.Hd) : con (allS (R :: l)) t k = List.replicate ((spR R).countP fun x => decide (x = (t, k))) R.i ++ con (allS l) t k := by
  have e : allS (R :: l) = ((spR R).map fun x => (x, R.i)) ++ allS l := by unfold allS; simp
  have e2 : ∀ X : List (Tp × Hx.Hd), ((X.map fun x => (x, R.i)).filter fun y => decide (y.1 = (t, k))).map (·.2) = List.replicate (X.countP fun x => decide (x = (t, k))) R.i := fun X => by
    induction X with
    | nil => simp
    | cons x X ih =>
      by_cases h : x = (t, k)
      · simp [h, ih, List.replicate_succ]
      · simp [h, ih]
  rw [e]
  unfold con
  rw [List.filter_append, List.map_append, e2]
theorem con_nil {l : List Ru} {t : Tp} {k : Hx.Hd} : con (allS l) t k = [] ↔ ∀ R ∈ l, (t, k) ∉ spR R := by
  induction l with
  | nil => simp [allS, con]
  | cons R l ih =>
    rw [con_cons, List.append_eq_nil_iff, ih]
    simp only [List.mem_cons, forall_eq_or_imp]
    refine and_congr ?_ Iff.rfl
    rw [List.replicate_eq_nil_iff, List.countP_eq_zero]
    constructor
    · intro h hm; exact h _ hm (by simp)
    · intro h x hx e
      rw [decide_eq_true_eq] at e
      exact h (e ▸ hx)
/-- The first of what stands under a header is the rule of the least place there. -/
theorem con_head : ∀ {l : List Ru} {t : Tp} {k : Hx.Hd} {i : Int} {rest : List Int}, con (allS l) t k = i :: rest → ∃ (j : Nat) (hj : j < l.length), (l[j]'hj).i = i ∧ (t, k) ∈ spR (l[j]'hj) ∧ ∀ j' (hj' : j' < l.length), (t, k) ∈ spR (l[j']'hj') → j ≤ j'
  | [], t, k, i, rest, h => by simp [allS, con] at h
  | R :: l, t, k, i, rest, h => by
    rw [con_cons] at h
    by_cases hm : (t, k) ∈ spR R
    · have hp : 0 < (spR R).countP fun x => decide (x = (t, k)) := List.countP_pos_iff.2 ⟨_, hm, by simp⟩
      obtain ⟨n, hn⟩ : ∃ n, (spR R).countP (fun x => decide (x = (t, k))) = n + 1 := ⟨_, (Nat.sub_add_cancel hp).symm⟩
      rw [hn, List.replicate_succ] at h
      injection h with h1 _
      exact ⟨0, by simp, by simpa using h1, by simpa using hm, fun _ _ _ => Nat.zero_le _⟩
    · have h0 : (spR R).countP (fun x => decide (x = (t, k))) = 0 := List.countP_eq_zero.2 fun x hx e => by
        rw [decide_eq_true_eq] at e; exact hm (e ▸ hx)
      rw [h0, List.replicate_zero, List.nil_append] at h
      obtain ⟨j, hj, h1, h2, h3⟩ := con_head h
      refine ⟨j + 1, by simpa using hj, by simpa using h1, by simpa using h2, fun j' hj' hm' => ?_⟩
      cases j' with
      | zero => exact absurd (by simpa using hm') hm
      | succ j' => exact Nat.succ_le_succ (h3 j' (by simpa using hj') (by simpa using hm'))
end Go.Proofs.Ytfpmljgmfapoiaa
/-
  What each function of package prefix, and of the document's answer, hands back: one contract a function, for every world; each makes memory of its own alone.
-/
namespace Go.Proofs.Ytfpmljgmfapoiaa.Pf
open Go.RowKit
set_option linter.unusedVariables false
set_option linter.unusedSimpArgs false

theorem isLength_in (n : Nat) (w : World) (hn : n ≤ 32) :
    Calls Try.prog 86 #[.int .i64 n] w fun e w' => e = .returned (.bool true) ∧ w' = w := by
  have h1 : (0 : Int) ≤ n := by omega
  have h2 : (n : Int) ≤ 32 := by omega
  have d1 : decide ((0 : Int) ≤ n) = true := decide_eq_true h1
  have d2 : decide ((n : Int) ≤ 32) = true := decide_eq_true h2
  go_enter Try.func86, Try.ntmps86
  go_wp2
  go_ret
  exact ⟨rfl, rfl⟩
theorem isLength_out (n : Int) (w : World) (hn : n < 0 ∨ 32 < n) :
    Calls Try.prog 86 #[.int .i64 n] w fun e w' => e = .returned (.bool false) ∧ w' = w := by
  rcases hn with hn | hn
  · have d1 : decide ((0 : Int) ≤ n) = false := decide_eq_false (by omega)
    go_enter Try.func86, Try.ntmps86
    go_wp2
    go_ret
    exact ⟨rfl, rfl⟩
  · have d1 : decide ((0 : Int) ≤ n) = true := decide_eq_true (by omega)
    have d2 : decide (n ≤ (32 : Int)) = false := decide_eq_false (by omega)
    go_enter Try.func86, Try.ntmps86
    go_wp2
    go_ret
    exact ⟨rfl, rfl⟩
theorem beyond_any (n : Nat) (w : World) (hn : n ≤ 32) :
    Calls Try.prog 87 #[.int .i64 n] w fun e w' => e = .returned (.int .u32 ((bk n - 1 : Nat) : Int)) ∧ w' = w := by
  go_enter Try.func87, Try.ntmps87
  go_wp2
  go_ret
  exact ⟨ret_int (shr_int n hn), rfl⟩
theorem first_any (a n : Nat) (w : World) (ha : a < 4294967296) (hn : n ≤ 32) :
    Calls Try.prog 105 #[.int .u32 a, .int .i64 n] w fun e w' => e = .returned (.agg #[.int .u32 (ct a n : Int), .int .i64 n]) ∧ Below w.heap.size w w' := by
  have hand := andNot_lw a n ha
  go_enter Try.func105, Try.ntmps105
  go_wp2_with (go_at_call 87; refine (beyond_any n _ hn).mono ?_; rintro e w' ⟨rfl, hw⟩; obtain rfl := hw.symm; clear hw)
  exact bodyPost_ret (v := .agg #[.int .u32 (ct a n : Int), .int .i64 n]) (by simp [results, Try.results105, go_sem]) rfl ⟨rfl, (Below.refl _ _).alloc (Nat.le_refl _) _⟩
theorem check_any (a : Nat) (n : Int) (w : World) (ha : a < 4294967296) :
    Calls Try.prog 71 #[.agg #[.int .u32 a, .int .i64 n]] w fun e w' => e = .returned (.int .i64 (chk a n)) ∧ Below w.heap.size w w' := by
  by_cases hn : n < 0 ∨ 32 < n
  · rw [chk_out a n hn]
    go_enter Try.func71, Try.ntmps71
    go_wp2_with (go_at_call 86; refine (isLength_out n _ hn).mono ?_; rintro e w' ⟨rfl, hw⟩; obtain rfl := hw.symm; clear hw)
    go_ret
    exact ⟨rfl, (Below.refl _ _).alloc (Nat.le_refl _) _⟩
  · obtain ⟨m, rfl⟩ : ∃ m : Nat, n = (m : Int) := ⟨n.toNat, by omega⟩
    have hm : m ≤ 32 := by omega
    clear hn
    have hand := and_lw a m ha
    by_cases h0 : a % bk m = 0
    · rw [chk_in a m hm h0]
      rw [h0] at hand
      clear h0
      go_enter Try.func71, Try.ntmps71
      go_wp2_with (go_at_call 86; refine (isLength_in m _ hm).mono ?_; rintro e w' ⟨rfl, hw⟩; obtain rfl := hw.symm; clear hw)
      go_quiet ((go_at_call 87; exact Calls.quiet_of_same (beyond_any m _ hm)))
      go_wp2
      go_ret
      exact ⟨rfl, bel_drewN ((Below.refl _ _).alloc (Nat.le_refl _) _) _⟩
    · rw [chk_bits a m hm h0]
      have h0' : ¬ ((a % bk m : Nat) : Int) = 0 := by omega
      have d0 : (((a % bk m : Nat) : Int) != 0) = true := by simpa using h0'
      clear h0
      go_enter Try.func71, Try.ntmps71
      go_wp2_with (go_at_call 86; refine (isLength_in m _ hm).mono ?_; rintro e w' ⟨rfl, hw⟩; obtain rfl := hw.symm; clear hw)
      go_quiet ((go_at_call 87; exact Calls.quiet_of_same (beyond_any m _ hm)))
      go_wp2
      go_ret
      exact ⟨rfl, bel_drewN ((Below.refl _ _).alloc (Nat.le_refl _) _) _⟩
end Go.Proofs.Ytfpmljgmfapoiaa.Pf
