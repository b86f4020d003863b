/-
  ExG: ExPlain ExPlB ExA ExU ExB SpPlain SpA SpB SpU SpSr ExPlC ExK2 ExPlU2 ExPn2 ExPa2 ExPs2 ExPk2 ExPo3 ExPlM ExPlR2, one behind the other (tools/merge.py).
-/
import Derived.RowKit
import Derived.Test.YtcjpjofoddpfhaaGreatProg
import Derived.Test.YtcjpjofoddpfhaaGreatPxKin
import Derived.Laws.BitsAllLaws
import Derived.Maps.AppendAt
import Derived.OwnWalk
import Derived.Deep.AppendLies
import Derived.Sort.Grow
import Derived.Deep.RegionHeld3
import Derived.Deep.DrawnRows
import Derived.WalkMore
import Derived.OneCell
/-
  The fewest stems of a set of ports: plain mathematics, no program is named here. 'ah': how many of the set lie below a place; 'tl': the document's way, by halves; 'Tiles': any way that goes up from place to place and takes at each place of the set the greatest stem that begins there: both tell one list.
-/
namespace Go.Proofs.YtcjpjofoddpfhaaGreat.Xp
open Go.RowKit
set_option linter.unusedVariables false

/-- How many of the set lie below i. -/
def ah (p : Nat → Bool) : Nat → Nat
  | 0 => 0
  | i + 1 => ah p i + if p i then 1 else 0
def full (p : Nat → Bool) (a n : Nat) : Prop := ∀ i, a ≤ i → i < a + n → p i = true
def bare (p : Nat → Bool) (a n : Nat) : Prop := ∀ i, a ≤ i → i < a + n → p i = false
theorem ah_step (p : Nat → Bool) (a n : Nat) : ah p (a + (n + 1)) = ah p (a + n) + if p (a + n) then 1 else 0 := rfl
theorem ah_bd (p : Nat → Bool) (a : Nat) : ∀ n, ah p a ≤ ah p (a + n) ∧ ah p (a + n) ≤ ah p a + n
  | 0 => ⟨Nat.le_refl _, Nat.le_refl _⟩
  | n + 1 => by
    have := ah_bd p a n
    rw [ah_step]
    split <;> omega
theorem ah_le (p : Nat → Bool) (n : Nat) : ah p n ≤ n := by
  have := (ah_bd p 0 n).2
  rw [Nat.zero_add] at this
  have e : ah p 0 = 0 := rfl
  omega
theorem ah_full (p : Nat → Bool) (a : Nat) : ∀ n, ah p (a + n) = ah p a + n ↔ full p a n
  | 0 => ⟨fun _ i h1 h2 => by omega, fun _ => rfl⟩
  | n + 1 => by
    have ih := ah_full p a n
    have bd := ah_bd p a n
    rw [ah_step]
    constructor
    · intro h
      have h1 : p (a + n) = true := by
        cases hp : p (a + n)
        · rw [hp] at h; simp at h; omega
        · rfl
      rw [h1] at h
      simp at h
      have h2 := ih.1 (by omega)
      intro i hi1 hi2
      by_cases e : i = a + n
      · subst e; exact h1
      · exact h2 i hi1 (by omega)
    · intro h
      rw [h (a + n) (by omega) (by omega), ih.2 fun i h1 h2 => h i h1 (by omega)]
      simp; omega
theorem ah_bare (p : Nat → Bool) (a : Nat) : ∀ n, ah p (a + n) = ah p a ↔ bare p a n
  | 0 => ⟨fun _ i h1 h2 => by omega, fun _ => rfl⟩
  | n + 1 => by
    have ih := ah_bare p a n
    have bd := ah_bd p a n
    rw [ah_step]
    constructor
    · intro h
      have h1 : p (a + n) = false := by
        cases hp : p (a + n)
        · rfl
        · rw [hp] at h; simp at h; omega
      rw [h1] at h
      simp at h
      have h2 := ih.1 (by omega)
      intro i hi1 hi2
      by_cases e : i = a + n
      · subst e; exact h1
      · exact h2 i hi1 (by omega)
    · intro h
      rw [h (a + n) (by omega) (by omega), ih.2 fun i h1 h2 => h i h1 (by omega)]
      simp
/-- The document's way: f is 16 less the stem's length. -/
def tl (p : Nat → Bool) : Nat → Nat → List (Nat × Nat)
  | 0, a => if ah p (a + 1) - ah p a = 1 then [(a, 16)] else []
  | f + 1, a => if ah p (a + 2 ^ (f + 1)) - ah p a = 2 ^ (f + 1) then [(a, 15 - f)] else if ah p (a + 2 ^ (f + 1)) - ah p a = 0 then [] else tl p f a ++ tl p f (a + 2 ^ f)
theorem tl_full {p : Nat → Bool} {f a : Nat} (h : full p a (2 ^ f)) : tl p f a = [(a, 16 - f)] := by
  have e := (ah_full p a (2 ^ f)).2 h
  cases f with
  | zero => unfold tl; rw [Nat.pow_zero] at e; rw [e, if_pos (by omega)]
  | succ f => unfold tl; rw [e, if_pos (Nat.add_sub_cancel_left ..), show 16 - (f + 1) = 15 - f by omega]
theorem tl_bare {p : Nat → Bool} {f a : Nat} (h : bare p a (2 ^ f)) : tl p f a = [] := by
  have e := (ah_bare p a (2 ^ f)).2 h
  have hp : 0 < 2 ^ f := Nat.pow_pos (by decide)
  cases f with
  | zero => unfold tl; rw [Nat.pow_zero] at e; rw [e, if_neg (by omega)]
  | succ f =>
    unfold tl
    rw [e]
    generalize 2 ^ (f + 1) = z at hp
    rw [if_neg (by omega), if_pos (by omega)]
theorem tl_halves {p : Nat → Bool} {f a : Nat} (h1 : ¬ full p a (2 ^ (f + 1))) (h2 : ¬ bare p a (2 ^ (f + 1))) : tl p (f + 1) a = tl p f a ++ tl p f (a + 2 ^ f) := by
  rw [← ah_full] at h1
  rw [← ah_bare] at h2
  have bd := ah_bd p a (2 ^ (f + 1))
  have h3 : ¬ ah p (a + 2 ^ (f + 1)) - ah p a = 2 ^ (f + 1) := by omega
  have h4 : ¬ ah p (a + 2 ^ (f + 1)) - ah p a = 0 := by omega
  show (if _ then _ else if _ then _ else _) = _
  rw [if_neg h3, if_neg h4]
/-- The greatest stem that begins at a. -/
structure IsMax (p : Nat → Bool) (a f : Nat) : Prop where
  le : f ≤ 16
  dvd : 2 ^ f ∣ a
  all : full p a (2 ^ f)
  max : ¬ (f < 16 ∧ 2 ^ (f + 1) ∣ a ∧ full p a (2 ^ (f + 1)))
def TilesF (p : Nat → Bool) (b : Nat) : Nat → Nat → List (Nat × Nat) → Prop
  | 0, a, l => a = b ∧ l = []
  | n + 1, a, l => (a < b ∧ p a = false ∧ TilesF p b n (a + 1) l) ∨ ∃ f l2, l = (a, 16 - f) :: l2 ∧ IsMax p a f ∧ a + 2 ^ f ≤ b ∧ TilesF p b n (a + 2 ^ f) l2
/-- From a up to b, by steps that pass over a place outside the set or take the greatest stem: the stems that are taken. -/
def Tiles (p : Nat → Bool) (a b : Nat) (l : List (Nat × Nat)) : Prop := ∃ n, TilesF p b n a l
theorem Tiles.done {p : Nat → Bool} (b : Nat) : Tiles p b b [] := ⟨0, rfl, rfl⟩
theorem Tiles.skip {p : Nat → Bool} {a b : Nat} {l : List (Nat × Nat)} (hlt : a < b) (hp : p a = false) (h : Tiles p (a + 1) b l) : Tiles p a b l := by
  obtain ⟨n, h⟩ := h
  exact ⟨n + 1, .inl ⟨hlt, hp, h⟩⟩
theorem Tiles.take {p : Nat → Bool} {a b f : Nat} {l : List (Nat × Nat)} (hm : IsMax p a f) (hle : a + 2 ^ f ≤ b) (h : Tiles p (a + 2 ^ f) b l) : Tiles p a b ((a, 16 - f) :: l) := by
  obtain ⟨n, h⟩ := h
  exact ⟨n + 1, .inr ⟨f, l, rfl, hm, hle, h⟩⟩
theorem Tiles.inv {p : Nat → Bool} {a b : Nat} {l : List (Nat × Nat)} (h : Tiles p a b l) : (a = b ∧ l = []) ∨ (a < b ∧ p a = false ∧ Tiles p (a + 1) b l) ∨ ∃ f l2, l = (a, 16 - f) :: l2 ∧ IsMax p a f ∧ a + 2 ^ f ≤ b ∧ Tiles p (a + 2 ^ f) b l2 := by
  obtain ⟨n, h⟩ := h
  cases n with
  | zero => exact .inl h
  | succ n =>
    rcases h with ⟨h1, h2, h3⟩ | ⟨f, l2, h1, h2, h3, h4⟩
    · exact .inr (.inl ⟨h1, h2, n, h3⟩)
    · exact .inr (.inr ⟨f, l2, h1, h2, h3, n, h4⟩)
theorem Tiles.end {p : Nat → Bool} {b : Nat} {l : List (Nat × Nat)} (h : Tiles p b b l) : l = [] := by
  rcases h.inv with ⟨_, h⟩ | ⟨h, _, _⟩ | ⟨f, l2, _, hm, hle, _⟩
  · exact h
  · omega
  · have : 0 < 2 ^ f := Nat.pow_pos (by decide)
    omega
theorem Tiles.skips {p : Nat → Bool} {b : Nat} {l : List (Nat × Nat)} : ∀ (n a : Nat), bare p a n → a + n ≤ b → (Tiles p a b l ↔ Tiles p (a + n) b l)
  | 0, a, _, _ => Iff.rfl
  | n + 1, a, h, hb => by
    have ha := h a (Nat.le_refl _) (by omega)
    have ih := Tiles.skips (b := b) (l := l) n (a + 1) (fun i h1 h2 => h i (by omega) (by omega)) (by omega)
    rw [show a + (n + 1) = a + 1 + n by omega, ← ih]
    constructor
    · intro ht
      rcases ht.inv with ⟨h3, _⟩ | ⟨_, _, h3⟩ | ⟨f, l2, _, hm, hle, h4⟩
      · omega
      · exact h3
      · have hp0 : 0 < 2 ^ f := Nat.pow_pos (by decide)
        have := hm.all a (Nat.le_refl _) (by omega)
        rw [ha] at this; cases this
    · exact fun ht => .skip (by omega) ha ht
theorem pow_dvd_le {f g : Nat} (h : f ≤ g) : 2 ^ f ∣ 2 ^ g := ⟨2 ^ (g - f), by rw [← Nat.pow_add]; congr 1; omega⟩
theorem pow_le {f g : Nat} (h : f ≤ g) : 2 ^ f ≤ 2 ^ g := Nat.pow_le_pow_right (by decide) h
theorem full_le {p : Nat → Bool} {a n m : Nat} (h : full p a n) (hm : m ≤ n) : full p a m := fun i h1 h2 => h i h1 (by omega)
/-- No greater stem of the set holds the block. -/
def free (p : Nat → Bool) (f a : Nat) : Prop := f = 16 ∨ ¬ full p (a / 2 ^ (f + 1) * 2 ^ (f + 1)) (2 ^ (f + 1))
theorem Tiles.block {p : Nat → Bool} {b : Nat} : ∀ (f a : Nat) (l : List (Nat × Nat)), f ≤ 16 → 2 ^ f ∣ a → a + 2 ^ f ≤ b → free p f a → Tiles p a b l → ∃ l', l = tl p f a ++ l' ∧ Tiles p (a + 2 ^ f) b l' := by
  intro f
  induction f with
  | zero =>
    intro a l hf hd hb hfr ht
    cases hp : p a
    · have hbr : bare p a (2 ^ 0) := fun i h1 h2 => by
        have e : i = a := by rw [Nat.pow_zero] at h2; omega
        rw [e]; exact hp
      exact ⟨l, by rw [tl_bare hbr]; rfl, (Tiles.skips (2 ^ 0) a hbr hb).1 ht⟩
    · have hfl : full p a (2 ^ 0) := fun i h1 h2 => by
        have e : i = a := by rw [Nat.pow_zero] at h2; omega
        rw [e]; exact hp
      rw [tl_full hfl]
      rcases ht.inv with ⟨h2, _⟩ | ⟨_, h2, _⟩ | ⟨g, l2, hl2, hm, hle, h3⟩
      · omega
      · rw [hp] at h2; cases h2
      · have hg : g = 0 := by
          cases g with
          | zero => rfl
          | succ g =>
            exfalso
            have d1 : 2 ^ (0 + 1) ∣ a := Nat.dvd_trans (pow_dvd_le (by omega)) hm.dvd
            rcases hfr with e | e
            · cases e
            · apply e
              rw [Nat.div_mul_cancel d1]
              exact full_le hm.all (pow_le (by omega))
        subst hg
        exact ⟨l2, by rw [hl2]; rfl, h3⟩
  | succ f ih =>
    intro a l hf hd hb hfr ht
    have hpos : 0 < 2 ^ (f + 1) := Nat.pow_pos (by decide)
    have hdbl : 2 ^ (f + 1) = 2 ^ f + 2 ^ f := by rw [Nat.pow_succ]; omega
    by_cases h1 : full p a (2 ^ (f + 1))
    · rw [tl_full h1]
      rcases ht.inv with ⟨h2, _⟩ | ⟨_, h2, _⟩ | ⟨g, l2, hl2, hm, hle, h3⟩
      · omega
      · rw [h1 a (Nat.le_refl _) (by omega)] at h2; cases h2
      · have hg : g = f + 1 := by
          rcases Nat.lt_trichotomy g (f + 1) with h | h | h
          · exact absurd ⟨by omega, Nat.dvd_trans (pow_dvd_le (by omega)) hd, full_le h1 (pow_le (by omega))⟩ hm.max
          · exact h
          · exfalso
            have d1 : 2 ^ (f + 1 + 1) ∣ a := Nat.dvd_trans (pow_dvd_le (by omega)) hm.dvd
            rcases hfr with e | e
            · have := hm.le; omega
            · apply e
              rw [Nat.div_mul_cancel d1]
              exact full_le hm.all (pow_le (by omega))
        subst hg
        exact ⟨l2, by rw [hl2]; rfl, h3⟩
    · by_cases h2 : bare p a (2 ^ (f + 1))
      · exact ⟨l, by rw [tl_bare h2]; rfl, (Tiles.skips _ a h2 hb).1 ht⟩
      · rw [tl_halves h1 h2]
        have hdf : 2 ^ f ∣ a := Nat.dvd_trans (pow_dvd_le (by omega)) hd
        obtain ⟨l1, e1, t1⟩ := ih a l (by omega) hdf (by omega) (.inr (by rw [Nat.div_mul_cancel hd]; exact h1)) ht
        have e3 : (a + 2 ^ f) / 2 ^ (f + 1) * 2 ^ (f + 1) = a := by
          obtain ⟨q, rfl⟩ := hd
          have hp2 : 0 < 2 ^ f := Nat.pow_pos (by decide)
          rw [Nat.mul_add_div hpos, Nat.div_eq_of_lt (by omega), Nat.add_zero, Nat.mul_comm]
        obtain ⟨l2, e2, t2⟩ := ih (a + 2 ^ f) l1 (by omega) (Nat.dvd_add hdf (Nat.dvd_refl _)) (by omega) (.inr (by rw [e3]; exact h1)) t1
        refine ⟨l2, by rw [e1, e2, List.append_assoc], ?_⟩
        rw [show a + 2 ^ (f + 1) = a + 2 ^ f + 2 ^ f by omega]
        exact t2
/-- Whoever goes up and takes the greatest one each time tells the document's list. -/
theorem Tiles.is {p : Nat → Bool} {l : List (Nat × Nat)} (h : Tiles p 0 65536 l) : l = tl p 16 0 := by
  obtain ⟨l', e, t⟩ := Tiles.block 16 0 l (Nat.le_refl _) (Nat.dvd_zero _) (by decide) (.inl rfl) h
  have := Tiles.end (b := 65536) (l := l') t
  rw [e, this, List.append_nil]
end Go.Proofs.YtcjpjofoddpfhaaGreat.Xp
/-
  What the fewest stems of a set hold, how many ports they have, how many they are for a span. No program is named here.
-/
namespace Go.Proofs.YtcjpjofoddpfhaaGreat.Xp
open Go.RowKit
set_option linter.unusedVariables false

/-- Does the stem (begin, length) hold the port? -/
def hos (q : Nat) (t : Nat × Nat) : Bool := decide (t.1 ≤ q ∧ q < t.1 + 2 ^ (16 - t.2))
/-- A stem that may be, within [a, a + n). -/
structure Sits (p : Nat → Bool) (a n : Nat) (t : Nat × Nat) : Prop where
  ge : a ≤ t.1
  le : t.1 + 2 ^ (16 - t.2) ≤ a + n
  len : t.2 ≤ 16
  dvd : 2 ^ (16 - t.2) ∣ t.1
  all : full p t.1 (2 ^ (16 - t.2))
theorem tl_sits (p : Nat → Bool) : ∀ (f a : Nat), f ≤ 16 → 2 ^ f ∣ a → ∀ t ∈ tl p f a, Sits p a (2 ^ f) t := by
  intro f
  induction f with
  | zero =>
    intro a hf hd t ht
    by_cases h : full p a (2 ^ 0)
    · rw [tl_full h, List.mem_singleton] at ht
      subst ht
      exact ⟨Nat.le_refl _, Nat.le_refl _, Nat.le_refl _, hd, h⟩
    · have hb : bare p a (2 ^ 0) := fun i h1 h2 => by
        have e : i = a := by rw [Nat.pow_zero] at h2; omega
        cases hp : p i
        · rfl
        · exact absurd (fun j j1 j2 => by
            have e2 : j = i := by rw [Nat.pow_zero] at j2; omega
            rw [e2]; exact hp) h
      rw [tl_bare hb] at ht; cases ht
  | succ f ih =>
    intro a hf hd t ht
    have hdbl : 2 ^ (f + 1) = 2 ^ f + 2 ^ f := by rw [Nat.pow_succ]; omega
    by_cases h1 : full p a (2 ^ (f + 1))
    · rw [tl_full h1, List.mem_singleton] at ht
      subst ht
      have e : 16 - (16 - (f + 1)) = f + 1 := by omega
      refine ⟨Nat.le_refl _, ?_, by show 16 - (f + 1) ≤ 16; omega, ?_, ?_⟩
      · show a + 2 ^ (16 - (16 - (f + 1))) ≤ _; rw [e]; exact Nat.le_refl _
      · show 2 ^ (16 - (16 - (f + 1))) ∣ a; rw [e]; exact hd
      · show full p a (2 ^ (16 - (16 - (f + 1)))); rw [e]; exact h1
    · by_cases h2 : bare p a (2 ^ (f + 1))
      · rw [tl_bare h2] at ht; cases ht
      · rw [tl_halves h1 h2, List.mem_append] at ht
        have hdf : 2 ^ f ∣ a := Nat.dvd_trans (pow_dvd_le (by omega)) hd
        rcases ht with ht | ht
        · have := ih a (by omega) hdf t ht
          exact ⟨this.ge, by have := this.le; omega, this.len, this.dvd, this.all⟩
        · have := ih (a + 2 ^ f) (by omega) (Nat.dvd_add hdf (Nat.dvd_refl _)) t ht
          exact ⟨by have := this.ge; omega, by have := this.le; omega, this.len, this.dvd, this.all⟩
theorem hos_out {p : Nat → Bool} {a n q : Nat} {t : Nat × Nat} (h : Sits p a n t) (hq : q < a ∨ a + n ≤ q) : hos q t = false := by
  unfold hos
  have := h.ge
  have := h.le
  exact decide_eq_false (by omega)
/-- Each port of the set is held by one of them alone, no other one by any. -/
theorem tl_count (p : Nat → Bool) (q : Nat) : ∀ (f a : Nat), f ≤ 16 → 2 ^ f ∣ a → (tl p f a).countP (hos q) = if (decide (a ≤ q ∧ q < a + 2 ^ f) && p q) = true then 1 else 0 := by
  intro f
  induction f with
  | zero =>
    intro a hf hd
    by_cases h : p a = true
    · have hfl : full p a (2 ^ 0) := fun i h1 h2 => by
        have e : i = a := by rw [Nat.pow_zero] at h2; omega
        rw [e]; exact h
      rw [tl_full hfl, List.countP_cons, List.countP_nil]
      by_cases e : q = a
      · subst e; simp [hos, h]
      · have h1 : hos q (a, 16 - 0) = false := decide_eq_false (by show ¬ (a ≤ q ∧ q < a + 2 ^ (16 - 16)); simp; omega)
        rw [h1, if_neg (by simp), if_neg (by simp; omega)]
    · have hb : bare p a (2 ^ 0) := fun i h1 h2 => by
        have e : i = a := by rw [Nat.pow_zero] at h2; omega
        rw [e]; simpa using h
      rw [tl_bare hb, List.countP_nil, if_neg]
      rw [Bool.and_eq_true, decide_eq_true_eq]
      rintro ⟨⟨h1, h2⟩, h3⟩
      have e : q = a := by rw [Nat.pow_zero] at h2; omega
      rw [e] at h3; exact h h3
  | succ f ih =>
    intro a hf hd
    have hdbl : 2 ^ (f + 1) = 2 ^ f + 2 ^ f := by rw [Nat.pow_succ]; omega
    by_cases h1 : full p a (2 ^ (f + 1))
    · rw [tl_full h1, List.countP_cons, List.countP_nil]
      have e : 16 - (16 - (f + 1)) = f + 1 := by omega
      by_cases hq : a ≤ q ∧ q < a + 2 ^ (f + 1)
      · have h2 : hos q (a, 16 - (f + 1)) = true := decide_eq_true (by show a ≤ q ∧ q < a + 2 ^ (16 - (16 - (f + 1))); rw [e]; exact hq)
        rw [h2, h1 q hq.1 hq.2, decide_eq_true hq]; rfl
      · have h2 : hos q (a, 16 - (f + 1)) = false := decide_eq_false (by show ¬ (a ≤ q ∧ q < a + 2 ^ (16 - (16 - (f + 1)))); rw [e]; exact hq)
        rw [h2, decide_eq_false hq]; rfl
    · by_cases h2 : bare p a (2 ^ (f + 1))
      · rw [tl_bare h2, List.countP_nil, if_neg]
        rw [Bool.and_eq_true, decide_eq_true_eq]
        rintro ⟨⟨h3, h4⟩, h5⟩
        rw [h2 q h3 h4] at h5; cases h5
      · have hdf : 2 ^ f ∣ a := Nat.dvd_trans (pow_dvd_le (by omega)) hd
        rw [tl_halves h1 h2, List.countP_append, ih a (by omega) hdf, ih (a + 2 ^ f) (by omega) (Nat.dvd_add hdf (Nat.dvd_refl _))]
        by_cases hp : p q = true
        · rw [hp]
          simp only [Bool.and_true, decide_eq_true_eq]
          by_cases x1 : a ≤ q ∧ q < a + 2 ^ f
          · rw [if_pos x1, if_neg (by omega), if_pos (by omega)]
          · rw [if_neg x1]
            by_cases x2 : a + 2 ^ f ≤ q ∧ q < a + 2 ^ f + 2 ^ f
            · rw [if_pos x2, if_pos (by omega)]
            · rw [if_neg x2, if_neg (by omega)]
        · rw [show p q = false by simpa using hp]
          simp
/-- As many ports as the set has there. -/
theorem tl_ports (p : Nat → Bool) : ∀ (f a : Nat), f ≤ 16 → ((tl p f a).map fun t => 2 ^ (16 - t.2)).sum = ah p (a + 2 ^ f) - ah p a := by
  intro f
  induction f with
  | zero =>
    intro a hf
    unfold tl
    have bd := ah_bd p a 1
    split
    · rename_i h; rw [Nat.pow_zero, h]; rfl
    · rename_i h; rw [Nat.pow_zero]; simp; omega
  | succ f ih =>
    intro a hf
    have hdbl : 2 ^ (f + 1) = 2 ^ f + 2 ^ f := by rw [Nat.pow_succ]; omega
    by_cases h1 : full p a (2 ^ (f + 1))
    · rw [tl_full h1, (ah_full p a _).2 h1]
      have e : 16 - (16 - (f + 1)) = f + 1 := by omega
      show 2 ^ (16 - (16 - (f + 1))) + 0 = _
      rw [e, Nat.add_sub_cancel_left]
      rfl
    · by_cases h2 : bare p a (2 ^ (f + 1))
      · rw [tl_bare h2, (ah_bare p a _).2 h2, Nat.sub_self]; rfl
      · rw [tl_halves h1 h2, List.map_append, List.sum_append, ih a (by omega), ih (a + 2 ^ f) (by omega), hdbl, ← Nat.add_assoc]
        have b1 := ah_bd p a (2 ^ f)
        have b2 := ah_bd p (a + 2 ^ f) (2 ^ f)
        omega
/-- A span's ports. -/
def inS (lo hi i : Nat) : Bool := decide (lo ≤ i ∧ i ≤ hi)
theorem tl_top (lo hi : Nat) : ∀ (f a : Nat), f ≤ 16 → a + 2 ^ f ≤ hi + 1 → (tl (inS lo hi) f a).length ≤ max 1 f := by
  intro f
  induction f with
  | zero =>
    intro a _ _
    unfold tl
    split <;> simp
  | succ f ih =>
    intro a hf h
    have hdbl : 2 ^ (f + 1) = 2 ^ f + 2 ^ f := by rw [Nat.pow_succ]; omega
    have hpos : 0 < 2 ^ f := Nat.pow_pos (by decide)
    by_cases h1 : full (inS lo hi) a (2 ^ (f + 1))
    · rw [tl_full h1]; simp <;> omega
    · by_cases h2 : bare (inS lo hi) a (2 ^ (f + 1))
      · rw [tl_bare h2]; simp
      · rw [tl_halves h1 h2, List.length_append]
        by_cases x : lo ≤ a + 2 ^ f
        · have hfl : full (inS lo hi) (a + 2 ^ f) (2 ^ f) := fun i i1 i2 => decide_eq_true (by omega)
          have := ih a (by omega) (by omega)
          rw [tl_full hfl]
          cases f with
          | zero =>
            have hb : bare (inS lo hi) a (2 ^ 0) := fun i i1 i2 => decide_eq_false (by
              intro hc
              apply h1
              intro j j1 j2
              have e1 : i = a := by rw [Nat.pow_zero] at i2; omega
              exact decide_eq_true (by omega))
            rw [tl_bare hb]; simp
          | succ f => simp at this ⊢; omega
        · have hb : bare (inS lo hi) a (2 ^ f) := fun i i1 i2 => decide_eq_false (by omega)
          have := ih (a + 2 ^ f) (by omega) (by omega)
          rw [tl_bare hb]
          simp at this ⊢; omega
theorem tl_bot (lo hi : Nat) : ∀ (f a : Nat), f ≤ 16 → lo ≤ a → (tl (inS lo hi) f a).length ≤ max 1 f := by
  intro f
  induction f with
  | zero =>
    intro a _ _
    unfold tl
    split <;> simp
  | succ f ih =>
    intro a hf h
    have hdbl : 2 ^ (f + 1) = 2 ^ f + 2 ^ f := by rw [Nat.pow_succ]; omega
    have hpos : 0 < 2 ^ f := Nat.pow_pos (by decide)
    by_cases h1 : full (inS lo hi) a (2 ^ (f + 1))
    · rw [tl_full h1]; simp <;> omega
    · by_cases h2 : bare (inS lo hi) a (2 ^ (f + 1))
      · rw [tl_bare h2]; simp
      · rw [tl_halves h1 h2, List.length_append]
        by_cases x : a + 2 ^ f ≤ hi + 1
        · have hfl : full (inS lo hi) a (2 ^ f) := fun i i1 i2 => decide_eq_true (by omega)
          have := ih (a + 2 ^ f) (by omega) (by omega)
          rw [tl_full hfl]
          cases f with
          | zero =>
            have hb : bare (inS lo hi) (a + 2 ^ 0) (2 ^ 0) := fun i i1 i2 => decide_eq_false (by
              intro hc
              apply h1
              intro j j1 j2
              have e1 : i = a + 1 := by rw [Nat.pow_zero] at i1 i2; omega
              exact decide_eq_true (by omega))
            rw [tl_bare hb]; simp
          | succ f => simp at this ⊢; omega
        · have hb : bare (inS lo hi) (a + 2 ^ f) (2 ^ f) := fun i i1 i2 => decide_eq_false (by omega)
          have := ih a (by omega) (by omega)
          rw [tl_bare hb]
          simp at this ⊢; omega
/-- A span of ports is 30 stems at the most. -/
theorem tl_few (lo hi : Nat) : ∀ (f a : Nat), f ≤ 16 → (tl (inS lo hi) f a).length ≤ max 1 (2 * f - 2) := by
  intro f
  induction f with
  | zero =>
    intro a _
    unfold tl
    split <;> simp
  | succ f ih =>
    intro a hf
    have hdbl : 2 ^ (f + 1) = 2 ^ f + 2 ^ f := by rw [Nat.pow_succ]; omega
    have hpos : 0 < 2 ^ f := Nat.pow_pos (by decide)
    by_cases h1 : full (inS lo hi) a (2 ^ (f + 1))
    · rw [tl_full h1]; simp <;> omega
    · by_cases h2 : bare (inS lo hi) a (2 ^ (f + 1))
      · rw [tl_bare h2]; simp
      · rw [tl_halves h1 h2, List.length_append]
        by_cases x : a + 2 ^ f ≤ lo
        · have hb : bare (inS lo hi) a (2 ^ f) := fun i i1 i2 => decide_eq_false (by omega)
          have := ih (a + 2 ^ f) (by omega)
          rw [tl_bare hb]
          simp at this ⊢; omega
        · by_cases y : hi < a + 2 ^ f
          · have hb : bare (inS lo hi) (a + 2 ^ f) (2 ^ f) := fun i i1 i2 => decide_eq_false (by omega)
            have := ih a (by omega)
            rw [tl_bare hb]
            simp at this ⊢; omega
          · have t1 := tl_top lo hi f a (by omega) (by omega)
            have t2 := tl_bot lo hi f (a + 2 ^ f) (by omega) (by omega)
            cases f with
            | zero =>
              exfalso
              apply h1
              intro j j1 j2
              simp at j2 x y
              exact decide_eq_true (by omega)
            | succ f => simp at t1 t2 ⊢; omega
end Go.Proofs.YtcjpjofoddpfhaaGreat.Xp
/-
  Stems: what the small functions of the document's answer hand back (May, Check, Has, Span); one contract a function, for every world.
-/
namespace Go.Proofs.YtcjpjofoddpfhaaGreat.Xp
open Go.RowKit
set_option linter.unusedVariables false
set_option linter.unusedSimpArgs false

/-- The bit i of a number of 16 bits, counted from its first. -/
def bt (b i : Nat) : Nat := b / 2 ^ (15 - i) % 2
theorem bt_lt (b i : Nat) : bt b i < 2 := Nat.mod_lt _ (by decide)
theorem and_bt (b k : Nat) (hb : b < 65536) : bits .and .u16 ((b : Int) / 2 ^ k) 1 = ((b / 2 ^ k % 2 : Nat) : Int) := by
  have e : (b : Int) / 2 ^ k = ((b / 2 ^ k : Nat) : Int) := by simp
  rw [e]
  have h := u16_and_nat (b / 2 ^ k) 1 (Nat.lt_of_le_of_lt (Nat.div_le_self _ _) hb) (by decide)
  rw [nat_mask1] at h
  exact h
/-- May the stem be? -/
def mayT (b : Nat) (n : Int) : Bool := decide (0 ≤ n ∧ n ≤ 16 ∧ b % 2 ^ (16 - n.toNat) = 0)
def hasT (b : Nat) (n : Int) (q : Nat) : Bool := mayT b n && decide (b / 2 ^ (16 - n.toNat) = q / 2 ^ (16 - n.toNat))
theorem mod_bt (b i : Nat) (h : i < 16) : b % 2 ^ (16 - i) = bt b i * 2 ^ (15 - i) + b % 2 ^ (16 - (i + 1)) := by
  unfold bt
  rw [show 16 - i = (15 - i) + 1 by omega, show 16 - (i + 1) = 15 - i by omega, Nat.pow_succ, Nat.mod_mul]
  rw [Nat.mul_comm, Nat.add_comm]
theorem div_bt (b i : Nat) (h : i < 16) : b / 2 ^ (16 - (i + 1)) = b / 2 ^ (16 - i) * 2 + bt b i := by
  unfold bt
  rw [show 16 - i = (15 - i) + 1 by omega, show 16 - (i + 1) = 15 - i by omega, Nat.pow_succ, ← Nat.div_div_eq_div_mul]
  omega
/-- The last port of a stem. -/
def topT (b : Nat) (n : Int) : Nat := b + 2 ^ (16 - n.toNat) - 1
theorem topT_lt {b : Nat} {n : Int} (hb : b < 65536) (h : mayT b n = true) : topT b n < 65536 ∧ b ≤ topT b n := by
  have hmm : 0 ≤ n ∧ n ≤ 16 ∧ b % 2 ^ (16 - n.toNat) = 0 := of_decide_eq_true h
  unfold topT
  have hp : 0 < 2 ^ (16 - n.toNat) := Nat.pow_pos (by decide)
  have hd : 2 ^ (16 - n.toNat) ∣ 65536 := pow_dvd_le (f := 16 - n.toNat) (g := 16) (by omega)
  obtain ⟨c, hc⟩ := hd
  have hb2 := Nat.div_add_mod b (2 ^ (16 - n.toNat))
  rw [hmm.2.2, Nat.add_zero] at hb2
  generalize 2 ^ (16 - n.toNat) = z at *
  generalize b / z = y at *
  subst hb2
  have hyc : y < c := by
    rw [hc] at hb
    exact Nat.lt_of_mul_lt_mul_left hb
  have h2 : z * (y + 1) ≤ z * c := Nat.mul_le_mul_left z hyc
  rw [Nat.mul_add, Nat.mul_one] at h2
  omega
end Go.Proofs.YtcjpjofoddpfhaaGreat.Xp
/-
  Lists of stems in memory; 'append' of one owned row to another.
-/
namespace Go.Proofs.YtcjpjofoddpfhaaGreat.Xp
open Go.RowKit
set_option linter.unusedVariables false
set_option linter.unusedSimpArgs false

def flatT : List (Nat × Nat) → List Value
  | [] => []
  | p :: l => .int .u16 (p.1 : Int) :: .int .i64 (p.2 : Int) :: flatT l
theorem flatT_length (l : List (Nat × Nat)) : (flatT l).length = l.length * 2 := by
  induction l with
  | nil => rfl
  | cons p l ih => simp only [flatT, List.length_cons, ih]; omega
theorem flatT_append (l k : List (Nat × Nat)) : flatT (l ++ k) = flatT l ++ flatT k := by
  induction l with
  | nil => rfl
  | cons p l ih => simp only [flatT, List.cons_append, ih]
theorem flatT_one (l : List (Nat × Nat)) : ∀ u ∈ flatT l, u.oneCell' = true := by
  induction l with
  | nil => intro u hu; cases hu
  | cons p l ih =>
    intro u hu
    simp only [flatT, List.mem_cons] at hu
    rcases hu with rfl | rfl | hu
    · rfl
    · rfl
    · exact ih u hu
theorem flatT_at : ∀ (l : List (Nat × Nat)) (i : Nat) (h : i < l.length), (flatT l)[i * 2]? = some (.int .u16 ((l[i]'h).1 : Int)) ∧ (flatT l)[i * 2 + 1]? = some (.int .i64 ((l[i]'h).2 : Int))
  | p :: l, 0, _ => ⟨rfl, rfl⟩
  | p :: l, i + 1, h => by
    have := flatT_at l i (by simpa using h)
    rw [show (i + 1) * 2 = i * 2 + 2 by omega]
    exact this

theorem info_st : (Tryz.prog.info? 90).map (fun i => (i.zero, i.size, i.bytes)) = some (some (.agg #[.int .u16 0, .int .i64 0]), 2, 16) := by kernel_rfl

/-- The row v of w holds the list. -/
def RowT (w : World) (base : Nat) (v : Value) (l : List (Nat × Nat)) : Prop := w.ownsRow base 90 2 v l.length (flatT l)
theorem RowT.base {w : World} {b b' : Nat} {v : Value} {l : List (Nat × Nat)} (h : RowT w b v l) (hb : b' ≤ b) : RowT w b' v l := by
  refine ⟨h.1, ?_⟩
  rcases h.2 with h2 | ⟨g, cap, cur, hv, hg, r⟩
  · exact .inl h2
  · exact .inr ⟨g, cap, cur, hv, by omega, r⟩
theorem RowT.on {w w1 : World} {b : Nat} {v : Value} {l : List (Nat × Nat)} (h : RowT w b v l) (hb : Below w.heap.size w w1) : RowT w1 b v l := by
  refine ⟨h.1, ?_⟩
  rcases h.2 with h2 | ⟨g, cap, cur, hv, hg, hh, r⟩
  · exact .inl h2
  · exact .inr ⟨g, cap, cur, hv, hg, by rw [hb.block g (Array.getElem?_eq_some_iff.1 hh).1]; exact hh, r⟩
theorem RowT.alloc {w : World} {b : Nat} {v : Value} {l : List (Nat × Nat)} (h : RowT w b v l) (o : Obj) : RowT (w.alloc o) b v l := World.ownsRow.alloc h o
theorem RowT.nil (w : World) (b : Nat) : RowT w b (.slice none 0 0) [] := World.ownsRow_nil w b _ _
theorem RowT.one (w : World) (b a n : Nat) (hb : b ≤ w.heap.size) : RowT (w.alloc (.cells #[.int .u16 a, .int .i64 n] 90)) b (.slice (some ⟨w.heap.size, 0, none⟩) 1 1) [(a, n)] :=
  World.ownsRow_lit w #[.int .u16 a, .int .i64 n] 1 hb (by decide) rfl
theorem RowT.one2 (w : World) (b : Nat) {x y : Int} (a n : Nat) {B : Nat} (hB : B = w.heap.size) (hx : x = (a : Int)) (hy : y = (n : Int)) (hb : b ≤ w.heap.size) : RowT (w.alloc (.cells #[.int .u16 x, .int .i64 y] 90)) b (.slice (some ⟨B, 0, none⟩) 1 1) [(a, n)] := by
  subst hx hy hB; exact RowT.one w b a n hb
theorem RowT.lt {w : World} {b : Nat} {v : Value} {l : List (Nat × Nat)} (h : RowT w b v l) : ∀ k, v.ownBlock = some k → b ≤ k ∧ k < w.heap.size := World.ownsRow.lt h

/-- One owned row behind another. -/
theorem run_append_stems (w : World) (ty : TypeId) (b : Nat) (v : Value) (l : List (Nat × Nat)) (h : RowT w b v l) (c : Nat) (u : Value) (k : List (Nat × Nat)) (hk : RowT w c u k)
    (hb : b ≤ w.heap.size) (hsz : l.length + k.length ≤ 4294967296) :
    ∃ v' w', (Builtin.append_ #[92, 92] ty #[v, u]).run Tryz.prog w = .ok v' w' ∧ RowT w' b v' (l ++ k) ∧ w.grownBy w' v.ownBlock := by
  obtain ⟨i0, hi, hz0, hz1, hz2⟩ := info_parts info_st
  have hmx : l.length + k.length ≤ maxLen := by unfold maxLen; omega
  rcases hk.2 with ⟨rfl, hk0⟩ | ⟨g, cap, cur, rfl, hg, hh, hnc, hcm, hcs, htk⟩
  · have hr := run_append_owned_none (P := Tryz.prog) (w := w) b 92 ty 90 i0 2 Tryz.underlying92 hi v l.length (flatT l) h
    refine ⟨v, w, hr, ?_, ⟨rfl, rfl, rfl, Nat.le_refl _, fun _ _ _ => rfl⟩⟩
    rw [List.eq_nil_of_length_eq_zero hk0, List.append_nil]
    exact h
  · have hn := World.ownsRow.cells hk (g := g) rfl
    obtain ⟨v', w', hr, ho, hgr, _⟩ := run_append_own (P := Tryz.prog) w b 92 ty 90 i0 (.agg #[.int .u16 0, .int .i64 0]) 2 16 Tryz.underlying92 hi hz0 hz1 hz2 rfl (by decide) v l.length (flatT l) h ⟨g, 0, none⟩ k.length cap (flatT k) (flatT_length k) hn (flatT_one k) hmx (by omega) hb
    refine ⟨v', w', hr, ?_, hgr⟩
    unfold RowT
    rw [List.length_append, flatT_append]
    exact ho

theorem wp_append_stems {o : Oper} {a : Act} {w : World} {K : Act → World → Prop} {Q : Exit → Act → World → Prop} (s x : Operand)
    (ho : o.op = .call { callee := .builtin .append, args := #[s, x], argTypes := #[92, 92] })
    (b : Nat) (v : Value) (l : List (Nat × Nat)) (hs : a.eval s = v) (h : RowT w b v l) (c : Nat) (u : Value) (k : List (Nat × Nat)) (hx : a.eval x = u) (hk : RowT w c u k)
    (hb : b ≤ w.heap.size) (hsz : l.length + k.length ≤ 4294967296)
    (hK : ∀ v' w', RowT w' b v' (l ++ k) → w.grownBy w' v.ownBlock → K (a.put o.dst v') w') : o.wp Tryz.prog a w K Q := by
  obtain ⟨v', w', hr, h2, h3⟩ := run_append_stems w o.type b v l h c u k hk hb hsz
  unfold Oper.wp execOp
  simp only [ho, resolve, invoke, builtin, Sem.run_bind, Sem.run_pure, Result.andThen_ok, List.map_toArray, List.map_cons, List.map_nil, hs, hx, hr]
  exact hK v' w' h2 h3
theorem wpList_append_stems {ops : Array Oper} {rest : List Oper} {o : Oper} {a : Act} {w : World} {Q : Exit → Act → World → Prop} (hgd : o.guard = none) (s x : Operand)
    (ho : o.op = .call { callee := .builtin .append, args := #[s, x], argTypes := #[92, 92] })
    (b : Nat) (v : Value) (l : List (Nat × Nat)) (hs : a.eval s = v) (h : RowT w b v l) (c : Nat) (u : Value) (k : List (Nat × Nat)) (hx : a.eval x = u) (hk : RowT w c u k)
    (hb : b ≤ w.heap.size) (hsz : l.length + k.length ≤ 4294967296)
    (hK : ∀ v' w', RowT w' b v' (l ++ k) → w.grownBy w' v.ownBlock → wpList Tryz.prog ops Q rest (a.put o.dst v') w') : wpList Tryz.prog ops Q (o :: rest) a w :=
  wpList_plain hgd fun _ hK' => wp_append_stems s x ho b v l hs h c u k hx hk hb hsz fun v' w' h2 h3 => hK' _ _ (hK v' w' h2 h3)
theorem step_append_stems {ops : Array Oper} {o : Oper} {a : Act} {w : World} {K : Act → World → Prop} {Q : Exit → Act → World → Prop} {E : Prop} (hgd : o.guard = none) (s x : Operand)
    (ho : o.op = .call { callee := .builtin .append, args := #[s, x], argTypes := #[92, 92] })
    (b : Nat) (v : Value) (l : List (Nat × Nat)) (hs : a.eval s = v) (h : RowT w b v l) (c : Nat) (u : Value) (k : List (Nat × Nat)) (hx : a.eval x = u) (hk : RowT w c u k)
    (hb : b ≤ w.heap.size) (hsz : l.length + k.length ≤ 4294967296)
    (hK : ∀ v' w', RowT w' b v' (l ++ k) → w.grownBy w' v.ownBlock → K (a.put o.dst v') w') : if Region.wanted o (yielded ops a.tmps) = true then Oper.wp Tryz.prog o a w K Q else E := by
  have hw : Region.wanted o (yielded ops a.tmps) = true := by simp [Region.wanted, hgd]
  rw [if_pos hw]
  exact wp_append_stems s x ho b v l hs h c u k hx hk hb hsz hK
theorem bel_grownT {B : Nat} {a w w' : World} {b : Nat} {v : Value} {l : List (Nat × Nat)} (h : Below B a w) (hr : RowT w b v l) (hg : w.grownBy w' v.ownBlock) (hB : B ≤ w.heap.size) (hb : B ≤ b) : Below B a w' :=
  h.grown hg hB fun k hk => Nat.le_trans hb (hr.lt k hk).1
theorem cell_onT {W w1 : World} (hb : Below W.heap.size W w1) {p : Addr} {v : Value} (h : W.cell? p = some v) : w1.cell? p = some v := by rw [hb.cell (World.block_lt_of_cell? W p h)]; exact h
theorem cell_allocT {w : World} {p : Addr} {v : Value} {o : Obj} (h : w.cell? p = some v) : (w.alloc o).cell? p = some v := cell_onT ((Below.refl _ _).alloc (Nat.le_refl _) o) h
/-- What a row looks like. -/
theorem RowT.form {w : World} {b : Nat} {v : Value} {l : List (Nat × Nat)} (h : RowT w b v l) :
    ∃ (ad : Option Addr) (cap : Nat), v = .slice ad l.length cap ∧ l.length ≤ cap ∧ (0 < l.length → ∃ g, ad = some ⟨g, 0, none⟩ ∧ b ≤ g ∧ g < w.heap.size ∧ ∀ k (hk : k < l.length), w.cell? ⟨g, k * 2, none⟩ = some (.int .u16 ((l[k]'hk).1 : Int)) ∧ w.cell? ⟨g, k * 2 + 1, none⟩ = some (.int .i64 ((l[k]'hk).2 : Int))) := by
  rcases h.2 with ⟨hv, hn⟩ | ⟨g, cap, cur, hv, hb, hg, hcap, r⟩
  · exact ⟨none, 0, by rw [hv, hn], by omega, fun h0 => by omega⟩
  · subst hv
    refine ⟨_, cap, rfl, hcap, fun _ => ⟨g, rfl, hb, (Array.getElem?_eq_some_iff.1 hg).1, fun k hk => ?_⟩⟩
    have h' : w.ownsRow b 90 2 (.slice (some ⟨g, 0, none⟩) l.length cap) l.length (flatT l) := h
    have hf := flatT_at l k hk
    exact ⟨by rw [h'.cellAt (k * 2) (by omega), hf.1], by rw [h'.cellAt (k * 2 + 1) (by omega), hf.2]⟩
theorem RowT.frozen {w : World} {b g cap n : Nat} {l : List (Nat × Nat)} (h : RowT w b (.slice (some ⟨g, 0, none⟩) n cap) l) (j : Nat) : w.frozen? ⟨g, j, none⟩ = false := by
  rcases h.2 with ⟨hv, _⟩ | ⟨g', cap', cur, hv, hb, hg, r⟩
  · cases hv
  · cases hv; simp [World.frozen?, hg]
end Go.Proofs.YtcjpjofoddpfhaaGreat.Xp
/-
  The document's fewest stems of a set of ports: tiled, by halves over the counts of what lies ahead.
-/
namespace Go.Proofs.YtcjpjofoddpfhaaGreat.Xp
open Go.RowKit
set_option linter.unusedVariables false
set_option linter.unusedSimpArgs false

/-- The counts of what lies ahead of each place, in memory. -/
def Ahead (w : World) (v : Value) (p : Nat → Bool) : Prop :=
  ∃ g, v = .slice (some ⟨g, 0, none⟩) 65537 65537 ∧ ∀ i, i ≤ 65536 → w.cell? ⟨g, i, none⟩ = some (.int .i64 ((ah p i : Nat) : Int))
theorem Ahead.on {w w1 : World} {v : Value} {p : Nat → Bool} (h : Ahead w v p) (hb : Below w.heap.size w w1) : Ahead w1 v p := by
  obtain ⟨g, hv, hc⟩ := h
  exact ⟨g, hv, fun i hi => cell_on1 hb (hc i hi)⟩
theorem tl_len (p : Nat → Bool) : ∀ (f a : Nat), (tl p f a).length ≤ 2 ^ f := by
  intro f
  induction f with
  | zero => intro a; unfold tl; split <;> simp
  | succ f ih =>
    intro a
    have hp : 0 < 2 ^ f := Nat.pow_pos (by decide)
    have e : 2 ^ (f + 1) = 2 ^ f + 2 ^ f := by rw [Nat.pow_succ]; omega
    by_cases h1 : full p a (2 ^ (f + 1))
    · rw [tl_full h1]; simp; omega
    · by_cases h2 : bare p a (2 ^ (f + 1))
      · rw [tl_bare h2]; simp
      · rw [tl_halves h1 h2, List.length_append]
        have := ih a
        have := ih (a + 2 ^ f)
        omega
set_option maxHeartbeats 2000000 in
theorem tiled_full (p : Nat → Bool) (m a : Nat) (v : Value) (w : World) (hm : m ≤ 16) (ha : a + 2 ^ (16 - m) ≤ 65536) (hA : Ahead w v p) (h : full p a (2 ^ (16 - m))) :
    Calls Tryz.prog 112 #[v, .int .i64 a, .int .i64 m] w fun e w' => ∃ v' : Value, e = .returned v' ∧ RowT w' w.heap.size v' [(a, m)] ∧ Below w.heap.size w w' := by
  obtain ⟨g, rfl, hc⟩ := hA
  have x0 := hc (a + 2 ^ (16 - m)) ha
  have x1 := hc a (Nat.le_trans (Nat.le_add_right _ _) ha)
  rw [(ah_full p a _).2 h] at x0
  have hle := ah_le p a
  have hp : 0 < 2 ^ (16 - m) := Nat.pow_pos (by decide)
  have hm' : (m : Int) ≤ 16 := by omega
  obtain ⟨Z, hZ⟩ : ∃ Z : Nat, Z = 2 ^ (16 - m) := ⟨_, rfl⟩
  have hZi : (2 : Int) ^ (16 - m) = (Z : Int) := by rw [hZ]; simp
  rw [← hZ] at ha x0 hp
  generalize ah p a = A at *
  clear hc h hZ
  have b1 : (0 : Int) ≤ (a : Int) + (Z : Int) := by omega
  have b2 : (a : Int) + (Z : Int) < 65537 := by omega
  have b3 : (0 : Int) ≤ (a : Int) := by omega
  have b4 : (a : Int) < 65537 := by omega
  have b5 : (a : Int) < 65536 := by omega
  have e1 : (A : Int) + (Z : Int) - (A : Int) = (Z : Int) := by omega
  have e2 : (a : Int) % 65536 = (a : Int) := by omega
  go_enter Tryz.func112, Tryz.ntmps112
  go_wp2_with (fail)
  go_region
  go_wp2_with (fail)
  go_ret
  exact ⟨_, rfl, RowT.one2 w.drew w.heap.size a m rfl (by first | rfl | (simp; done) | (simp; omega)) rfl (Nat.le_refl _), by (repeat (first | assumption | exact Below.refl _ _ | refine Below.drew ?_ | refine bel_drewN ?_ _ | refine Below.setCell ?_ (by first | omega | (simp; done) | (simp; omega)) _ | refine Below.alloc ?_ (by first | omega | (simp; done) | (simp; omega)) _ | refine bel_of ?_ (by assumption)))⟩
set_option maxHeartbeats 2000000 in
theorem tiled_bare (p : Nat → Bool) (m a : Nat) (v : Value) (w : World) (hm : m ≤ 16) (ha : a + 2 ^ (16 - m) ≤ 65536) (hA : Ahead w v p) (h : bare p a (2 ^ (16 - m))) :
    Calls Tryz.prog 112 #[v, .int .i64 a, .int .i64 m] w fun e w' => ∃ v' : Value, e = .returned v' ∧ RowT w' w.heap.size v' [] ∧ Below w.heap.size w w' := by
  obtain ⟨g, rfl, hc⟩ := hA
  have x0 := hc (a + 2 ^ (16 - m)) ha
  have x1 := hc a (Nat.le_trans (Nat.le_add_right _ _) ha)
  rw [(ah_bare p a _).2 h] at x0
  have hle := ah_le p a
  have hp : 0 < 2 ^ (16 - m) := Nat.pow_pos (by decide)
  have hm' : (m : Int) ≤ 16 := by omega
  obtain ⟨Z, hZ⟩ : ∃ Z : Nat, Z = 2 ^ (16 - m) := ⟨_, rfl⟩
  have hZi : (2 : Int) ^ (16 - m) = (Z : Int) := by rw [hZ]; simp
  rw [← hZ] at ha x0 hp
  generalize ah p a = A at *
  clear hc h hZ
  have b1 : (0 : Int) ≤ (a : Int) + (Z : Int) := by omega
  have b2 : (a : Int) + (Z : Int) < 65537 := by omega
  have b3 : (0 : Int) ≤ (a : Int) := by omega
  have b4 : (a : Int) < 65537 := by omega
  have b5 : (a : Int) < 65536 := by omega
  have e1 : ¬ (0 : Int) = (Z : Int) := by omega
  have e2 : ((0 : Int) == (Z : Int)) = false := by rw [beq_eq_false_iff_ne]; exact e1
  have e3 : (A : Int) - (A : Int) = 0 := by omega
  go_enter Tryz.func112, Tryz.ntmps112
  go_wp2_with (fail)
  go_region
  go_wp2_with (fail)
  go_ret
  exact ⟨_, rfl, RowT.nil _ _, by (repeat (first | assumption | exact Below.refl _ _ | refine Below.drew ?_ | refine bel_drewN ?_ _ | refine Below.setCell ?_ (by first | omega | (simp; done) | (simp; omega)) _ | refine Below.alloc ?_ (by first | omega | (simp; done) | (simp; omega)) _ | refine bel_of ?_ (by assumption)))⟩
set_option maxHeartbeats 2000000 in
theorem tiled_mixed (p : Nat → Bool) (m a f : Nat) (v : Value) (w : World) (hm : m + (f + 1) = 16) (ha : a + 2 ^ (16 - m) ≤ 65536) (hA : Ahead w v p) (h1 : ¬ full p a (2 ^ (16 - m))) (h2 : ¬ bare p a (2 ^ (16 - m))) (L R : List (Nat × Nat)) (hL : L.length ≤ 65536) (hR : R.length ≤ 65536)
    (ih1 : ∀ W, Ahead W v p → Calls Tryz.prog 112 #[v, .int .i64 a, .int .i64 ((m : Int) + 1)] W fun e w' => ∃ v' : Value, e = .returned v' ∧ RowT w' W.heap.size v' L ∧ Below W.heap.size W w')
    (ih2 : ∀ W, Ahead W v p → Calls Tryz.prog 112 #[v, .int .i64 ((a : Int) + ((2 ^ f : Nat) : Int)), .int .i64 ((m : Int) + 1)] W fun e w' => ∃ v' : Value, e = .returned v' ∧ RowT w' W.heap.size v' R ∧ Below W.heap.size W w') :
    Calls Tryz.prog 112 #[v, .int .i64 a, .int .i64 m] w fun e w' => ∃ v' : Value, e = .returned v' ∧ RowT w' w.heap.size v' (L ++ R) ∧ Below w.heap.size w w' := by
  have HA : Hid (Ahead w v p) := hA
  obtain ⟨g, rfl, hc⟩ := hA
  have x0 := hc (a + 2 ^ (16 - m)) ha
  have x1 := hc a (Nat.le_trans (Nat.le_add_right _ _) ha)
  have bd := ah_bd p a (2 ^ (16 - m))
  rw [← ah_full] at h1
  rw [← ah_bare] at h2
  have hhalf : 2 ^ (16 - m) = 2 ^ f + 2 ^ f := by rw [show 16 - m = f + 1 by omega, Nat.pow_succ]; omega
  have hle2 := ah_le p (a + 2 ^ (16 - m))
  have hle := ah_le p a
  have hp : 0 < 2 ^ (16 - m) := Nat.pow_pos (by decide)
  have hmf : m ≤ 16 := by omega
  have hm' : (m : Int) ≤ 16 := by omega
  obtain ⟨Z, hZ⟩ : ∃ Z : Nat, Z = 2 ^ (16 - m) := ⟨_, rfl⟩
  have hZi : (2 : Int) ^ (16 - m) = (Z : Int) := by rw [hZ]; simp
  rw [← hZ] at ha x0 hp bd h1 h2 hhalf hle2
  generalize ah p a = A at *
  clear hc hZ
  have b1 : (0 : Int) ≤ (a : Int) + (Z : Int) := by omega
  have b2 : (a : Int) + (Z : Int) < 65537 := by omega
  have b3 : (0 : Int) ≤ (a : Int) := by omega
  have b4 : (a : Int) < 65537 := by omega
  have b5 : (a : Int) < 65536 := by omega
  obtain ⟨B, hB⟩ : ∃ B, B = ah p (a + Z) := ⟨_, rfl⟩
  rw [← hB] at x0 bd h1 h2 hle2
  obtain ⟨Y, hY⟩ : ∃ Y : Nat, Y = 2 ^ f := ⟨_, rfl⟩
  rw [← hY] at hhalf ih2
  have e1 : ¬ (B : Int) - (A : Int) = (Z : Int) := by omega
  have e2 : ¬ (B : Int) - (A : Int) = 0 := by omega
  have e3 : (((B : Int) - (A : Int)) == (Z : Int)) = false := by rw [beq_eq_false_iff_ne]; exact e1
  have e4 : (((B : Int) - (A : Int)) == 0) = false := by rw [beq_eq_false_iff_ne]; exact e2
  have e5 : (Z : Int) / 2 = (Y : Int) := by omega
  have e6 : (Z : Int).tdiv 2 = (Y : Int) := by rw [Int.tdiv_eq_ediv_of_nonneg (by omega)]; omega
  have b6 : (B : Int) ≤ 65536 := by omega
  have b7 : (A : Int) ≤ 65536 := by omega
  have b8 : (Z : Int) ≤ 65536 := by omega
  have b9 : (Y : Int) ≤ 65536 := by omega
  clear hB hY h1 h2 bd hhalf
  go_enter Tryz.func112, Tryz.ntmps112
  go_wp2_with (fail)
  go_region
  go_wp2_with (fail)
  refine (ih1 _ (HA.out.on ((Below.refl _ _).drew))).mono ?_
  rintro e w1 ⟨v1, rfl, r1, hb1⟩
  have R1 : Hid (RowT w1 w.heap.size v1 L) := r1
  have HA1 : Hid (Ahead w1 (.slice (some ⟨g, 0, none⟩) 65537 65537) p) := (HA.out.on ((Below.refl _ _).drew)).on hb1
  have B1 : Hid (Below w.heap.size w w1) := (Below.refl _ _).drew.trans (hb1.mono (Nat.le_refl _))
  have z1 := B1.out.size
  clear r1 hb1 ih1 HA x0 x1
  go_wp2_with (fail)
  refine (ih2 _ HA1.out).mono ?_
  rintro e w2 ⟨v2, rfl, r2, hb2⟩
  have R1' : Hid (RowT w2 w.heap.size v1 L) := R1.out.on hb2
  have R2 : Hid (RowT w2 w1.heap.size v2 R) := r2
  have B2 : Hid (Below w.heap.size w w2) := B1.out.trans (hb2.mono z1)
  have z2 := B2.out.size
  clear r2 hb2 ih2 HA1 R1 B1
  go_wp2_with (at_builtin; refine wpList_append_stems rfl (.tmp 48) (.tmp 49) rfl w.heap.size _ L rfl R1'.out w1.heap.size _ R rfl R2.out z2 (by omega) ?_; intro v5 w5 hrow5 hgr5)
  go_ret
  exact ⟨_, rfl, hrow5, B2.out.grown hgr5 z2 (fun j hj => (R1'.out.lt j hj).1)⟩
set_option maxHeartbeats 1000000 in
theorem tiledT (p : Nat → Bool) : ∀ (f m a : Nat) (v : Value) (w : World), m + f = 16 → a + 2 ^ f ≤ 65536 → Ahead w v p →
    Calls Tryz.prog 112 #[v, .int .i64 a, .int .i64 m] w fun e w' => ∃ v' : Value, e = .returned v' ∧ RowT w' w.heap.size v' (tl p f a) ∧ Below w.heap.size w w' := by
  intro f
  induction f with
  | zero =>
    intro m a v w hm ha hA
    obtain rfl : m = 16 := by omega
    by_cases h1 : full p a (2 ^ (16 - 16))
    · rw [tl_full h1]; exact tiled_full p 16 a v w (Nat.le_refl _) ha hA h1
    · have hb : bare p a (2 ^ (16 - 16)) := fun i i1 i2 => by
        have e : i = a := by simp at i2; omega
        cases hp : p i
        · rfl
        · exact absurd (fun j j1 j2 => by
            have e2 : j = i := by simp at j2; omega
            rw [e2]; exact hp) h1
      rw [tl_bare hb]; exact tiled_bare p 16 a v w (Nat.le_refl _) ha hA hb
  | succ f ih =>
    intro m a v w hm ha hA
    have e : 16 - m = f + 1 := by omega
    have e2 : 2 ^ (f + 1) = 2 ^ f + 2 ^ f := by rw [Nat.pow_succ]; omega
    have h16 : 2 ^ f ≤ 2 ^ 16 := pow_le (by omega)
    have hpos : 0 < 2 ^ f := Nat.pow_pos (by decide)
    by_cases h1 : full p a (2 ^ (f + 1))
    · rw [tl_full h1, show 16 - (f + 1) = m by omega]; exact tiled_full p m a v w (by omega) (by rw [e]; exact ha) hA (by rw [e]; exact h1)
    · by_cases h2 : bare p a (2 ^ (f + 1))
      · rw [tl_bare h2]; exact tiled_bare p m a v w (by omega) (by rw [e]; exact ha) hA (by rw [e]; exact h2)
      · rw [tl_halves h1 h2]
        refine tiled_mixed p m a f v w (by omega) (by rw [e]; exact ha) hA (by rw [e]; exact h1) (by rw [e]; exact h2) _ _ (Nat.le_trans (tl_len p f a) h16) (Nat.le_trans (tl_len p f (a + 2 ^ f)) h16) (fun W h => ?_) (fun W h => ?_)
        · exact ih (m + 1) a v W (by omega) (by omega) h
        · exact ih (m + 1) (a + 2 ^ f) v W (by omega) (by omega) h
end Go.Proofs.YtcjpjofoddpfhaaGreat.Xp
/-
  Sets of ports as spans: a list of spans that rises and leaves a port between each two is the only such list of its set; the union, the gaps, counts. No program is named here.
-/
namespace Go.Proofs.YtcjpjofoddpfhaaGreat.Xp
set_option linter.unusedVariables false
set_option linter.unusedSimpArgs false

def hasB (s : Nat × Nat) (i : Nat) : Bool := decide (s.1 ≤ i) && decide (i ≤ s.2)
def memB (l : List (Nat × Nat)) (i : Nat) : Bool := l.any fun s => hasB s i
theorem hasB_iff (s : Nat × Nat) (i : Nat) : hasB s i = true ↔ s.1 ≤ i ∧ i ≤ s.2 := by simp [hasB]
theorem memB_nil (i : Nat) : memB [] i = false := rfl
theorem memB_cons (s : Nat × Nat) (l : List (Nat × Nat)) (i : Nat) : memB (s :: l) i = (hasB s i || memB l i) := rfl
theorem memB_append (l m : List (Nat × Nat)) (i : Nat) : memB (l ++ m) i = (memB l i || memB m i) := by simp [memB, List.any_append]
theorem memB_iff (l : List (Nat × Nat)) (i : Nat) : memB l i = true ↔ ∃ s ∈ l, s.1 ≤ i ∧ i ≤ s.2 := by simp [memB, hasB]

/-- Rising, a port between each two, from k on. -/
def Canon : Nat → List (Nat × Nat) → Prop
  | _, [] => True
  | k, s :: l => k ≤ s.1 ∧ s.1 ≤ s.2 ∧ s.2 < 65536 ∧ Canon (s.2 + 2) l
theorem Canon.weak : ∀ {l : List (Nat × Nat)} {k j : Nat}, Canon k l → j ≤ k → Canon j l
  | [], _, _, _, _ => trivial
  | s :: l, k, j, h, hj => ⟨Nat.le_trans hj h.1, h.2⟩
theorem Canon.from {l : List (Nat × Nat)} {k i : Nat} (h : Canon k l) (hi : memB l i = true) : k ≤ i ∧ i < 65536 := by
  induction l generalizing k with
  | nil => cases hi
  | cons s l ih =>
    obtain ⟨h1, h2, h3, h4⟩ := h
    rw [memB_cons, Bool.or_eq_true, hasB_iff] at hi
    rcases hi with hi | hi
    · omega
    · have := ih h4 hi; omega
theorem Canon.each {l : List (Nat × Nat)} {k : Nat} (h : Canon k l) : ∀ s ∈ l, k ≤ s.1 ∧ s.1 ≤ s.2 ∧ s.2 < 65536 := by
  induction l generalizing k with
  | nil => intro s hs; cases hs
  | cons t l ih =>
    obtain ⟨h1, h2, h3, h4⟩ := h
    intro s hs
    rcases List.mem_cons.1 hs with rfl | hs
    · exact ⟨h1, h2, h3⟩
    · have := ih h4 s hs; omega
theorem canon_uniq : ∀ {l m : List (Nat × Nat)} {k : Nat}, Canon k l → Canon k m → (∀ i, memB l i = memB m i) → l = m
  | [], [], _, _, _, _ => rfl
  | [], t :: m, _, _, h2, h => by
    have := h t.1
    rw [memB_nil, memB_cons] at this
    have h3 : hasB t t.1 = true := (hasB_iff _ _).2 ⟨Nat.le_refl _, h2.2.1⟩
    rw [h3] at this; cases this
  | s :: l, [], _, h1, _, h => by
    have := h s.1
    rw [memB_nil, memB_cons] at this
    have h3 : hasB s s.1 = true := (hasB_iff _ _).2 ⟨Nat.le_refl _, h1.2.1⟩
    rw [h3] at this; cases this
  | s :: l, t :: m, k, h1, h2, h => by
    obtain ⟨a1, a2, a3, a4⟩ := h1
    obtain ⟨b1, b2, b3, b4⟩ := h2
    have inl : ∀ i, memB (s :: l) i = true ↔ (s.1 ≤ i ∧ i ≤ s.2) ∨ memB l i = true := fun i => by rw [memB_cons, Bool.or_eq_true, hasB_iff]
    have inm : ∀ i, memB (t :: m) i = true ↔ (t.1 ≤ i ∧ i ≤ t.2) ∨ memB m i = true := fun i => by rw [memB_cons, Bool.or_eq_true, hasB_iff]
    have e : ∀ i, (s.1 ≤ i ∧ i ≤ s.2) ∨ memB l i = true ↔ (t.1 ≤ i ∧ i ≤ t.2) ∨ memB m i = true := fun i => by rw [← inl, ← inm, h i]
    have fl : ∀ i, memB l i = true → s.2 + 2 ≤ i := fun i hi => (a4.from hi).1
    have fm : ∀ i, memB m i = true → t.2 + 2 ≤ i := fun i hi => (b4.from hi).1
    have e1 : s.1 = t.1 := by
      have x := (e s.1).1 (.inl ⟨Nat.le_refl _, a2⟩)
      have y := (e t.1).2 (.inl ⟨Nat.le_refl _, b2⟩)
      have x' : t.1 ≤ s.1 := by rcases x with x | x
                                · exact x.1
                                · have := fm _ x; omega
      have y' : s.1 ≤ t.1 := by rcases y with y | y
                                · exact y.1
                                · have := fl _ y; omega
      omega
    have e2 : s.2 = t.2 := by
      rcases Nat.lt_trichotomy s.2 t.2 with c | c | c
      · have x := (e (s.2 + 1)).2 (.inl ⟨by omega, by omega⟩)
        rcases x with x | x
        · omega
        · have := fl _ x; omega
      · exact c
      · have x := (e (t.2 + 1)).1 (.inl ⟨by omega, by omega⟩)
        rcases x with x | x
        · omega
        · have := fm _ x; omega
    have e3 : s = t := Prod.ext e1 e2
    subst e3
    have e4 : ∀ i, memB l i = memB m i := fun i => by
      rw [Bool.eq_iff_iff]
      constructor
      · intro hi
        have := fl i hi
        rcases (e i).1 (.inr hi) with x | x
        · omega
        · exact x
      · intro hi
        have := fm i hi
        rcases (e i).2 (.inr hi) with x | x
        · omega
        · exact x
    rw [canon_uniq a4 b4 e4]

theorem canon_snoc : ∀ {l : List (Nat × Nat)} {k : Nat} (s : Nat × Nat), Canon k (l ++ [s]) ↔ Canon k l ∧ (∀ t ∈ l, t.2 + 2 ≤ s.1) ∧ k ≤ s.1 ∧ s.1 ≤ s.2 ∧ s.2 < 65536
  | [], k, s => by simp [Canon]
  | t :: l, k, s => by
    have ih := canon_snoc (l := l) (k := t.2 + 2) s
    simp only [List.cons_append, Canon, ih, List.mem_cons, forall_eq_or_imp]
    constructor
    · rintro ⟨h1, h2, h3, h4, h5, h6, h7, h8⟩; exact ⟨⟨h1, h2, h3, h4⟩, ⟨h6, h5⟩, by omega, h7, h8⟩
    · rintro ⟨⟨h1, h2, h3, h4⟩, ⟨h6, h5⟩, _, h7, h8⟩; exact ⟨h1, h2, h3, h4, h5, h6, h7, h8⟩
/-- Of a rising list's spans the last ends last. -/
theorem canon_last {l : List (Nat × Nat)} {k : Nat} {s : Nat × Nat} (h : Canon k (l ++ [s])) : ∀ t ∈ l ++ [s], t.2 ≤ s.2 ∧ t.1 ≤ s.1 := by
  have h' := (canon_snoc s).1 h
  intro t ht
  rcases List.mem_append.1 ht with ht | ht
  · have := h'.2.1 t ht
    have := (h'.1.each) t ht
    omega
  · have : t = s := by simpa using ht
    subst this; omega

/-- The spans of the ports below n that p holds. -/
def spansU (p : Nat → Bool) : Nat → List (Nat × Nat)
  | 0 => []
  | n + 1 => if p n then (if 0 < n ∧ p (n - 1) = true then (match (spansU p n).getLast? with | some t => (spansU p n).dropLast ++ [(t.1, n)] | none => [(n, n)]) else spansU p n ++ [(n, n)]) else spansU p n
theorem spansU_is (p : Nat → Bool) : ∀ n, n ≤ 65536 → Canon 0 (spansU p n) ∧ (∀ i, memB (spansU p n) i = (decide (i < n) && p i)) ∧ (∀ j, n = j + 1 → p j = true → ∃ f t, spansU p n = f ++ [t] ∧ t.2 = j) ∧ (∀ t ∈ spansU p n, t.2 < n) := by
  intro n
  induction n with
  | zero => intro _; exact ⟨trivial, fun i => by simp [spansU, memB_nil], fun j h => by omega, fun t h => by simp [spansU] at h⟩
  | succ n ih =>
    intro hn
    obtain ⟨i1, i2, i3, i4⟩ := ih (by omega)
    unfold spansU
    by_cases hp : p n = true
    · rw [if_pos hp]
      by_cases h0 : 0 < n ∧ p (n - 1) = true
      · rw [if_pos h0]
        obtain ⟨f, t, e, ht⟩ := i3 (n - 1) (by omega) h0.2
        have e' : (spansU p n).getLast? = some t := by rw [e]; simp
        rw [e', e]
        simp only [List.dropLast_concat]
        rw [e] at i1 i2 i4
        have c := (canon_snoc t).1 i1
        refine ⟨(canon_snoc _).2 ⟨c.1, c.2.1, c.2.2.1, ?_, ?_⟩, fun i => ?_, fun j hj hpj => ⟨f, _, rfl, by show n = j; omega⟩, fun s hs => ?_⟩
        · show t.1 ≤ n; omega
        · show n < 65536; omega
        · have := i2 i
          rw [memB_append, memB_cons, memB_nil, Bool.or_false] at this ⊢
          rw [Bool.eq_iff_iff] at this ⊢
          simp only [Bool.or_eq_true, hasB_iff, Bool.and_eq_true, decide_eq_true_eq] at this ⊢
          by_cases hi : i = n
          · subst hi
            simp only [hp, and_true]
            constructor
            · intro _; omega
            · intro _; right; show t.1 ≤ i ∧ i ≤ i; omega
          · rw [show (i < n + 1) = (i < n) from propext ⟨by omega, by omega⟩, ← this]
            constructor
            · rintro (h | h)
              · exact .inl h
              · right; have h' : t.1 ≤ i ∧ i ≤ n := h; omega
            · rintro (h | h)
              · exact .inl h
              · right; show t.1 ≤ i ∧ i ≤ n; omega
        · rcases List.mem_append.1 hs with hs | hs
          · have := i4 s (List.mem_append_left _ hs); omega
          · have : s = (t.1, n) := by simpa using hs
            subst this; show n < n + 1; omega
      · rw [if_neg h0]
        have hend : ∀ t ∈ spansU p n, t.2 + 2 ≤ n := by
          intro t ht
          have h1 := i4 t ht
          have h2 := i1.each t ht
          rcases Nat.lt_or_ge (t.2 + 1) n with c | c
          · omega
          · exfalso
            have h3 : memB (spansU p n) t.2 = true := (memB_iff _ _).2 ⟨t, ht, by omega, by omega⟩
            rw [i2] at h3
            have h4 : p t.2 = true := by simp at h3; exact h3.2
            exact h0 ⟨by omega, by rw [show n - 1 = t.2 by omega]; exact h4⟩
        refine ⟨(canon_snoc _).2 ⟨i1, hend, Nat.zero_le _, Nat.le_refl _, by show n < 65536; omega⟩, fun i => ?_, fun j hj _ => ⟨_, _, rfl, by show n = j; omega⟩, fun s hs => ?_⟩
        · rw [memB_append, memB_cons, memB_nil, Bool.or_false, i2]
          rw [Bool.eq_iff_iff]
          simp only [Bool.or_eq_true, hasB_iff, Bool.and_eq_true, decide_eq_true_eq]
          constructor
          · rintro (h | h)
            · exact ⟨by omega, h.2⟩
            · have h' : n ≤ i ∧ i ≤ n := h
              obtain rfl : i = n := by omega
              exact ⟨by omega, hp⟩
          · rintro ⟨h1, h2⟩
            by_cases hi : i = n
            · right; show n ≤ i ∧ i ≤ n; omega
            · left; exact ⟨by omega, h2⟩
        · rcases List.mem_append.1 hs with hs | hs
          · have := i4 s hs; omega
          · have : s = (n, n) := by simpa using hs
            subst this; show n < n + 1; omega
    · rw [if_neg hp]
      refine ⟨i1, fun i => ?_, fun j hj hpj => ?_, fun t ht => by have := i4 t ht; omega⟩
      · rw [i2, Bool.eq_iff_iff]
        simp only [Bool.and_eq_true, decide_eq_true_eq]
        constructor
        · rintro ⟨h1, h2⟩; exact ⟨by omega, h2⟩
        · rintro ⟨h1, h2⟩
          refine ⟨?_, h2⟩
          rcases Nat.lt_or_ge i n with c | c
          · exact c
          · exact absurd (by rw [show n = i by omega]; exact h2) hp
      · obtain rfl : n = j := by omega
        exact absurd hpj hp

/-- A set of ports, as spans. -/
def canonOf (p : Nat → Bool) : List (Nat × Nat) := spansU p 65536
theorem canonOf_canon (p : Nat → Bool) : Canon 0 (canonOf p) := (spansU_is p 65536 (Nat.le_refl _)).1
theorem canonOf_mem (p : Nat → Bool) (i : Nat) : memB (canonOf p) i = (decide (i < 65536) && p i) := (spansU_is p 65536 (Nat.le_refl _)).2.1 i
theorem eq_canonOf {l : List (Nat × Nat)} {p : Nat → Bool} (h : Canon 0 l) (hm : ∀ i, i < 65536 → memB l i = p i) : l = canonOf p := by
  refine canon_uniq h (canonOf_canon p) fun i => ?_
  rw [canonOf_mem]
  by_cases hi : i < 65536
  · rw [hm i hi]; simp [hi]
  · rw [show decide (i < 65536) = false from decide_eq_false hi, Bool.false_and]
    cases hc : memB l i with
    | false => rfl
    | true => exact absurd (h.from hc).2 hi
theorem canonOf_congr {p q : Nat → Bool} (h : ∀ i, i < 65536 → p i = q i) : canonOf p = canonOf q :=
  eq_canonOf (canonOf_canon p) fun i hi => by rw [canonOf_mem, h i hi]; simp [hi]

/-- How many ports below n. -/
def cnt (p : Nat → Bool) : Nat → Nat
  | 0 => 0
  | n + 1 => cnt p n + (if p n then 1 else 0)
def total (l : List (Nat × Nat)) : Nat := (l.map fun s => s.2 + 1 - s.1).sum
theorem total_nil : total [] = 0 := rfl
theorem total_append (l m : List (Nat × Nat)) : total (l ++ m) = total l + total m := by simp [total, List.sum_append]
theorem total_one (s : Nat × Nat) : total [s] = s.2 + 1 - s.1 := by simp [total]
theorem total_spansU (p : Nat → Bool) : ∀ n, n ≤ 65536 → total (spansU p n) = cnt p n := by
  intro n
  induction n with
  | zero => intro _; rfl
  | succ n ih =>
    intro hn
    have ih := ih (by omega)
    obtain ⟨i1, i2, i3, i4⟩ := spansU_is p n (by omega)
    unfold spansU cnt
    by_cases hp : p n = true
    · rw [if_pos hp, if_pos hp]
      by_cases h0 : 0 < n ∧ p (n - 1) = true
      · rw [if_pos h0]
        obtain ⟨f, t, e, ht⟩ := i3 (n - 1) (by omega) h0.2
        have e' : (spansU p n).getLast? = some t := by rw [e]; simp
        rw [e', ← ih, e]
        simp only [List.dropLast_concat]
        rw [e] at i1
        have c := (canon_snoc t).1 i1
        rw [total_append, total_append, total_one, total_one]
        show total f + (n + 1 - t.1) = _
        omega
      · rw [if_neg h0, total_append, total_one, ih]
        show cnt p n + (n + 1 - n) = _
        omega
    · rw [if_neg hp, if_neg hp, ih, Nat.add_zero]
theorem total_canonOf (p : Nat → Bool) : total (canonOf p) = cnt p 65536 := total_spansU p 65536 (Nat.le_refl _)
theorem cnt_le (p : Nat → Bool) : ∀ n, cnt p n ≤ n
  | 0 => Nat.le_refl _
  | n + 1 => by have := cnt_le p n; unfold cnt; split <;> omega
theorem cnt_split (p q : Nat → Bool) : ∀ n, cnt (fun i => p i && q i) n + cnt (fun i => p i && !q i) n = cnt p n
  | 0 => rfl
  | n + 1 => by
    have := cnt_split p q n
    unfold cnt
    cases p n <;> cases q n <;> simp <;> omega
theorem cnt_not (p : Nat → Bool) : ∀ n, cnt p n + cnt (fun i => !p i) n = n
  | 0 => rfl
  | n + 1 => by
    have := cnt_not p n
    unfold cnt
    cases p n <;> simp <;> omega
theorem cnt_congr {p q : Nat → Bool} : ∀ n, (∀ i, i < n → p i = q i) → cnt p n = cnt q n
  | 0, _ => rfl
  | n + 1, h => by unfold cnt; rw [cnt_congr n (fun i hi => h i (by omega)), h n (by omega)]
theorem cnt_has (s : Nat × Nat) : ∀ n, cnt (hasB s) n = min n (s.2 + 1) - s.1
  | 0 => by simp [cnt]
  | n + 1 => by
    have := cnt_has s n
    unfold cnt
    rw [this]
    by_cases h : hasB s n = true
    · rw [if_pos h]; rw [hasB_iff] at h; omega
    · rw [if_neg h]; rw [hasB_iff] at h; omega
theorem length_le_total {l : List (Nat × Nat)} {k : Nat} (h : Canon k l) : l.length ≤ total l := by
  induction l generalizing k with
  | nil => exact Nat.zero_le _
  | cons s l ih =>
    have := ih h.2.2.2
    have h2 := h.2.1
    rw [show s :: l = [s] ++ l from rfl, total_append, total_one]
    simp only [List.singleton_append, List.length_cons]
    omega
theorem length_canonOf (p : Nat → Bool) : (canonOf p).length ≤ 65536 := by
  have h1 := length_le_total (canonOf_canon p)
  rw [total_canonOf] at h1
  have := cnt_le p 65536
  omega
/-- How many of the spans hold a port. -/
def hits (l : List (Nat × Nat)) (i : Nat) : Nat := (l.map fun s => if hasB s i then 1 else 0).sum
theorem hits_nil (i : Nat) : hits [] i = 0 := rfl
theorem hits_append (l m : List (Nat × Nat)) (i : Nat) : hits (l ++ m) i = hits l i + hits m i := by simp [hits, List.sum_append]
theorem hits_one (s : Nat × Nat) (i : Nat) : hits [s] i = if hasB s i then 1 else 0 := by simp [hits]
theorem hits_canon {l : List (Nat × Nat)} {k : Nat} (h : Canon k l) (i : Nat) : hits l i = if memB l i then 1 else 0 := by
  induction l generalizing k with
  | nil => rfl
  | cons s l ih =>
    have ih := ih h.2.2.2
    rw [show s :: l = [s] ++ l from rfl, hits_append, hits_one, ih]
    rw [List.singleton_append, memB_cons]
    by_cases hs : hasB s i = true
    · have : memB l i = false := by
        cases hm : memB l i with
        | false => rfl
        | true => have := (h.2.2.2.from hm).1; rw [hasB_iff] at hs; omega
      rw [this]; simp [hs]
    · simp [hs]
end Go.Proofs.YtcjpjofoddpfhaaGreat.Xp
/-
  What the small functions of package span hand back: one contract a function, for every world; each makes memory of its own alone.
-/
namespace Go.Proofs.YtcjpjofoddpfhaaGreat.Xp
open Go.RowKit
set_option linter.unusedVariables false
set_option linter.unusedSimpArgs false

def chkS (a b : Nat) : Int := if b < a then 30 else 0
theorem checkS (a b : Nat) (w : World) :
    Calls Tryz.prog 26 #[.agg #[.int .u16 a, .int .u16 b]] w fun e w' => e = .returned (.int .i64 (chkS a b)) ∧ Below w.heap.size w w' := by
  by_cases h : b < a
  · rw [show chkS a b = 30 from if_pos h]
    have h' : (b : Int) < (a : Int) := by omega
    clear h
    go_enter Tryz.func26, Tryz.ntmps26
    go_wp2
    go_ret
    exact ⟨rfl, by (repeat (first | assumption | exact Below.refl _ _ | refine Below.drew ?_ | refine bel_drewN ?_ _ | refine Below.setCell ?_ (by first | omega | (simp; done) | (simp; omega)) _ | refine Below.alloc ?_ (by first | omega | (simp; done) | (simp; omega)) _ | refine bel_of ?_ (by assumption)))⟩
  · rw [show chkS a b = 0 from if_neg h]
    have h' : ¬ (b : Int) < (a : Int) := by omega
    clear h
    go_enter Tryz.func26, Tryz.ntmps26
    go_wp2
    go_ret
    exact ⟨rfl, by (repeat (first | assumption | exact Below.refl _ _ | refine Below.drew ?_ | refine bel_drewN ?_ _ | refine Below.setCell ?_ (by first | omega | (simp; done) | (simp; omega)) _ | refine Below.alloc ?_ (by first | omega | (simp; done) | (simp; omega)) _ | refine bel_of ?_ (by assumption)))⟩
theorem hasS (a b i : Nat) (w : World) :
    Calls Tryz.prog 33 #[.agg #[.int .u16 a, .int .u16 b], .int .u16 i] w fun e w' => e = .returned (.bool (hasB (a, b) i)) ∧ Below w.heap.size w w' := by
  have he : hasB (a, b) i = (decide (a ≤ i) && decide (i ≤ b)) := rfl
  rw [he]
  clear he
  by_cases h : a ≤ i
  · rw [decide_eq_true h, Bool.true_and]
    have d1 : decide (a ≤ i) = true := decide_eq_true h
    clear h
    go_enter Tryz.func33, Tryz.ntmps33
    go_wp2
    go_ret
    exact ⟨rfl, by (repeat (first | assumption | exact Below.refl _ _ | refine Below.drew ?_ | refine bel_drewN ?_ _ | refine Below.setCell ?_ (by first | omega | (simp; done) | (simp; omega)) _ | refine Below.alloc ?_ (by first | omega | (simp; done) | (simp; omega)) _ | refine bel_of ?_ (by assumption)))⟩
  · rw [decide_eq_false h, Bool.false_and]
    have d1 : decide (a ≤ i) = false := decide_eq_false h
    clear h
    go_enter Tryz.func33, Tryz.ntmps33
    go_wp2
    go_ret
    exact ⟨rfl, by (repeat (first | assumption | exact Below.refl _ _ | refine Below.drew ?_ | refine bel_drewN ?_ _ | refine Below.setCell ?_ (by first | omega | (simp; done) | (simp; omega)) _ | refine Below.alloc ?_ (by first | omega | (simp; done) | (simp; omega)) _ | refine bel_of ?_ (by assumption)))⟩
def cntS (a b : Nat) : Nat := b + 1 - a
end Go.Proofs.YtcjpjofoddpfhaaGreat.Xp
/-
  Meet, Within, Compare of package span and of the document's answer.
-/
namespace Go.Proofs.YtcjpjofoddpfhaaGreat.Xp
open Go.RowKit
set_option linter.unusedVariables false
set_option linter.unusedSimpArgs false

theorem bel_grow (w : World) (os : Array Obj) : Below w.heap.size w (Sort.grow w os) := by
  refine ⟨rfl, rfl, rfl, ?_, fun k hk => ?_⟩
  · simp [Sort.grow]
  · simp [Sort.grow, Array.getElem?_append, hk]
def cmpI (x y : Nat × Nat) : Int := if x = y then 0 else if x.1 < y.1 ∨ (x.1 = y.1 ∧ x.2 < y.2) then -1 else 1

def wiB (a b c d : Nat) : Bool := decide (a ≤ b ∧ c ≤ a ∧ b ≤ d)
end Go.Proofs.YtcjpjofoddpfhaaGreat.Xp
/-
  Lists of spans in memory; 'append' of one owned row to another.
-/
namespace Go.Proofs.YtcjpjofoddpfhaaGreat.Xp
open Go.RowKit
set_option linter.unusedVariables false
set_option linter.unusedSimpArgs false

def flat : List (Nat × Nat) → List Value
  | [] => []
  | p :: l => .int .u16 (p.1 : Int) :: .int .u16 (p.2 : Int) :: flat l
theorem flat_length (l : List (Nat × Nat)) : (flat l).length = l.length * 2 := by
  induction l with
  | nil => rfl
  | cons p l ih => simp only [flat, List.length_cons, ih]; omega
theorem flat_append (l k : List (Nat × Nat)) : flat (l ++ k) = flat l ++ flat k := by
  induction l with
  | nil => rfl
  | cons p l ih => simp only [flat, List.cons_append, ih]
theorem flat_one (l : List (Nat × Nat)) : ∀ u ∈ flat l, u.oneCell' = true := by
  induction l with
  | nil => intro u hu; cases hu
  | cons p l ih =>
    intro u hu
    simp only [flat, List.mem_cons] at hu
    rcases hu with rfl | rfl | hu
    · rfl
    · rfl
    · exact ih u hu
theorem flat_at : ∀ (l : List (Nat × Nat)) (i : Nat) (h : i < l.length), (flat l)[i * 2]? = some (.int .u16 ((l[i]'h).1 : Int)) ∧ (flat l)[i * 2 + 1]? = some (.int .u16 ((l[i]'h).2 : Int))
  | p :: l, 0, _ => ⟨rfl, rfl⟩
  | p :: l, i + 1, h => by
    have := flat_at l i (by simpa using h)
    rw [show (i + 1) * 2 = i * 2 + 2 by omega]
    exact this

theorem info_sp : (Tryz.prog.info? 47).map (fun i => (i.zero, i.size, i.bytes)) = some (some (.agg #[.int .u16 0, .int .u16 0]), 2, 4) := by kernel_rfl

/-- The row v of w holds the list. -/
def Row (w : World) (base : Nat) (v : Value) (l : List (Nat × Nat)) : Prop := w.ownsRow base 47 2 v l.length (flat l)
theorem Row.base {w : World} {b b' : Nat} {v : Value} {l : List (Nat × Nat)} (h : Row w b v l) (hb : b' ≤ b) : Row w b' v l := by
  refine ⟨h.1, ?_⟩
  rcases h.2 with h2 | ⟨g, cap, cur, hv, hg, r⟩
  · exact .inl h2
  · exact .inr ⟨g, cap, cur, hv, by omega, r⟩
theorem Row.on {w w1 : World} {b : Nat} {v : Value} {l : List (Nat × Nat)} (h : Row w b v l) (hb : Below w.heap.size w w1) : Row w1 b v l := by
  refine ⟨h.1, ?_⟩
  rcases h.2 with h2 | ⟨g, cap, cur, hv, hg, hh, r⟩
  · exact .inl h2
  · exact .inr ⟨g, cap, cur, hv, hg, by rw [hb.block g (Array.getElem?_eq_some_iff.1 hh).1]; exact hh, r⟩
theorem Row.alloc {w : World} {b : Nat} {v : Value} {l : List (Nat × Nat)} (h : Row w b v l) (o : Obj) : Row (w.alloc o) b v l := World.ownsRow.alloc h o
theorem Row.nil (w : World) (b : Nat) : Row w b (.slice none 0 0) [] := World.ownsRow_nil w b _ _
theorem Row.one (w : World) (b a n : Nat) (hb : b ≤ w.heap.size) : Row (w.alloc (.cells #[.int .u16 a, .int .u16 n] 47)) b (.slice (some ⟨w.heap.size, 0, none⟩) 1 1) [(a, n)] :=
  World.ownsRow_lit w #[.int .u16 a, .int .u16 n] 1 hb (by decide) rfl
theorem Row.one2 (w : World) (b : Nat) {x y : Int} (a n : Nat) {B : Nat} (hB : B = w.heap.size) (hx : x = (a : Int)) (hy : y = (n : Int)) (hb : b ≤ w.heap.size) : Row (w.alloc (.cells #[.int .u16 x, .int .u16 y] 47)) b (.slice (some ⟨B, 0, none⟩) 1 1) [(a, n)] := by
  subst hx hy hB; exact Row.one w b a n hb
theorem Row.lt {w : World} {b : Nat} {v : Value} {l : List (Nat × Nat)} (h : Row w b v l) : ∀ k, v.ownBlock = some k → b ≤ k ∧ k < w.heap.size := World.ownsRow.lt h

/-- One owned row behind another. -/
theorem run_append_rows (w : World) (ty : TypeId) (b : Nat) (v : Value) (l : List (Nat × Nat)) (h : Row w b v l) (c : Nat) (u : Value) (k : List (Nat × Nat)) (hk : Row w c u k)
    (hb : b ≤ w.heap.size) (hsz : l.length + k.length ≤ 4294967296) :
    ∃ v' w', (Builtin.append_ #[22, 22] ty #[v, u]).run Tryz.prog w = .ok v' w' ∧ Row w' b v' (l ++ k) ∧ w.grownBy w' v.ownBlock := by
  obtain ⟨i0, hi, hz0, hz1, hz2⟩ := info_parts info_sp
  have hmx : l.length + k.length ≤ maxLen := by unfold maxLen; omega
  rcases hk.2 with ⟨rfl, hk0⟩ | ⟨g, cap, cur, rfl, hg, hh, hnc, hcm, hcs, htk⟩
  · have hr := run_append_owned_none (P := Tryz.prog) (w := w) b 22 ty 47 i0 2 Tryz.underlying22 hi v l.length (flat l) h
    refine ⟨v, w, hr, ?_, ⟨rfl, rfl, rfl, Nat.le_refl _, fun _ _ _ => rfl⟩⟩
    rw [List.eq_nil_of_length_eq_zero hk0, List.append_nil]
    exact h
  · have hn := World.ownsRow.cells hk (g := g) rfl
    obtain ⟨v', w', hr, ho, hgr, _⟩ := run_append_own (P := Tryz.prog) w b 22 ty 47 i0 (.agg #[.int .u16 0, .int .u16 0]) 2 4 Tryz.underlying22 hi hz0 hz1 hz2 rfl (by decide) v l.length (flat l) h ⟨g, 0, none⟩ k.length cap (flat k) (flat_length k) hn (flat_one k) hmx (by omega) hb
    refine ⟨v', w', hr, ?_, hgr⟩
    unfold Row
    rw [List.length_append, flat_append]
    exact ho

theorem wp_append_rows {o : Oper} {a : Act} {w : World} {K : Act → World → Prop} {Q : Exit → Act → World → Prop} (s x : Operand)
    (ho : o.op = .call { callee := .builtin .append, args := #[s, x], argTypes := #[22, 22] })
    (b : Nat) (v : Value) (l : List (Nat × Nat)) (hs : a.eval s = v) (h : Row w b v l) (c : Nat) (u : Value) (k : List (Nat × Nat)) (hx : a.eval x = u) (hk : Row w c u k)
    (hb : b ≤ w.heap.size) (hsz : l.length + k.length ≤ 4294967296)
    (hK : ∀ v' w', Row w' b v' (l ++ k) → w.grownBy w' v.ownBlock → K (a.put o.dst v') w') : o.wp Tryz.prog a w K Q := by
  obtain ⟨v', w', hr, h2, h3⟩ := run_append_rows w o.type b v l h c u k hk hb hsz
  unfold Oper.wp execOp
  simp only [ho, resolve, invoke, builtin, Sem.run_bind, Sem.run_pure, Result.andThen_ok, List.map_toArray, List.map_cons, List.map_nil, hs, hx, hr]
  exact hK v' w' h2 h3
theorem wpList_append_rows {ops : Array Oper} {rest : List Oper} {o : Oper} {a : Act} {w : World} {Q : Exit → Act → World → Prop} (hgd : o.guard = none) (s x : Operand)
    (ho : o.op = .call { callee := .builtin .append, args := #[s, x], argTypes := #[22, 22] })
    (b : Nat) (v : Value) (l : List (Nat × Nat)) (hs : a.eval s = v) (h : Row w b v l) (c : Nat) (u : Value) (k : List (Nat × Nat)) (hx : a.eval x = u) (hk : Row w c u k)
    (hb : b ≤ w.heap.size) (hsz : l.length + k.length ≤ 4294967296)
    (hK : ∀ v' w', Row w' b v' (l ++ k) → w.grownBy w' v.ownBlock → wpList Tryz.prog ops Q rest (a.put o.dst v') w') : wpList Tryz.prog ops Q (o :: rest) a w :=
  wpList_plain hgd fun _ hK' => wp_append_rows s x ho b v l hs h c u k hx hk hb hsz fun v' w' h2 h3 => hK' _ _ (hK v' w' h2 h3)
theorem step_append_rows {ops : Array Oper} {o : Oper} {a : Act} {w : World} {K : Act → World → Prop} {Q : Exit → Act → World → Prop} {E : Prop} (hgd : o.guard = none) (s x : Operand)
    (ho : o.op = .call { callee := .builtin .append, args := #[s, x], argTypes := #[22, 22] })
    (b : Nat) (v : Value) (l : List (Nat × Nat)) (hs : a.eval s = v) (h : Row w b v l) (c : Nat) (u : Value) (k : List (Nat × Nat)) (hx : a.eval x = u) (hk : Row w c u k)
    (hb : b ≤ w.heap.size) (hsz : l.length + k.length ≤ 4294967296)
    (hK : ∀ v' w', Row w' b v' (l ++ k) → w.grownBy w' v.ownBlock → K (a.put o.dst v') w') : if Region.wanted o (yielded ops a.tmps) = true then Oper.wp Tryz.prog o a w K Q else E := by
  have hw : Region.wanted o (yielded ops a.tmps) = true := by simp [Region.wanted, hgd]
  rw [if_pos hw]
  exact wp_append_rows s x ho b v l hs h c u k hx hk hb hsz hK
theorem bel_grown {B : Nat} {a w w' : World} {b : Nat} {v : Value} {l : List (Nat × Nat)} (h : Below B a w) (hr : Row w b v l) (hg : w.grownBy w' v.ownBlock) (hB : B ≤ w.heap.size) (hb : B ≤ b) : Below B a w' :=
  h.grown hg hB fun k hk => Nat.le_trans hb (hr.lt k hk).1
theorem cell_on {W w1 : World} (hb : Below W.heap.size W w1) {p : Addr} {v : Value} (h : W.cell? p = some v) : w1.cell? p = some v := by rw [hb.cell (World.block_lt_of_cell? W p h)]; exact h
theorem cell_alloc {w : World} {p : Addr} {v : Value} {o : Obj} (h : w.cell? p = some v) : (w.alloc o).cell? p = some v := cell_on ((Below.refl _ _).alloc (Nat.le_refl _) o) h
/-- What a row looks like. -/
theorem Row.form {w : World} {b : Nat} {v : Value} {l : List (Nat × Nat)} (h : Row w b v l) :
    ∃ (ad : Option Addr) (cap : Nat), v = .slice ad l.length cap ∧ l.length ≤ cap ∧ (0 < l.length → ∃ g, ad = some ⟨g, 0, none⟩ ∧ b ≤ g ∧ g < w.heap.size ∧ ∀ k (hk : k < l.length), w.cell? ⟨g, k * 2, none⟩ = some (.int .u16 ((l[k]'hk).1 : Int)) ∧ w.cell? ⟨g, k * 2 + 1, none⟩ = some (.int .u16 ((l[k]'hk).2 : Int))) := by
  rcases h.2 with ⟨hv, hn⟩ | ⟨g, cap, cur, hv, hb, hg, hcap, r⟩
  · exact ⟨none, 0, by rw [hv, hn], by omega, fun h0 => by omega⟩
  · subst hv
    refine ⟨_, cap, rfl, hcap, fun _ => ⟨g, rfl, hb, (Array.getElem?_eq_some_iff.1 hg).1, fun k hk => ?_⟩⟩
    have h' : w.ownsRow b 47 2 (.slice (some ⟨g, 0, none⟩) l.length cap) l.length (flat l) := h
    have hf := flat_at l k hk
    exact ⟨by rw [h'.cellAt (k * 2) (by omega), hf.1], by rw [h'.cellAt (k * 2 + 1) (by omega), hf.2]⟩
theorem Row.frozen {w : World} {b g cap n : Nat} {l : List (Nat × Nat)} (h : Row w b (.slice (some ⟨g, 0, none⟩) n cap) l) (j : Nat) : w.frozen? ⟨g, j, none⟩ = false := by
  rcases h.2 with ⟨hv, _⟩ | ⟨g', cap', cur, hv, hb, hg, r⟩
  · cases hv
  · cases hv; simp [World.frozen?, hg]
/-- The last span's upper end is written over. -/
theorem Row.setHi {w : World} {b g cap : Nat} {f : List (Nat × Nat)} {t : Nat × Nat} {n : Nat} (h : Row w b (.slice (some ⟨g, 0, none⟩) n cap) (f ++ [t])) (x : Nat) :
    Row (w.setCell ⟨g, f.length * 2 + 1, none⟩ (.int .u16 (x : Int))) b (.slice (some ⟨g, 0, none⟩) n cap) (f ++ [(t.1, x)]) ∧ w.grownBy (w.setCell ⟨g, f.length * 2 + 1, none⟩ (.int .u16 (x : Int))) (some g) := by
  have h' : w.ownsRow b 47 2 (.slice (some ⟨g, 0, none⟩) n cap) (f ++ [t]).length (flat (f ++ [t])) := h
  have hn : n = (f ++ [t]).length := by
    rcases h'.2 with ⟨hv, _⟩ | ⟨_, _, _, hv, _⟩
    · cases hv
    · cases hv; rfl
  rw [hn] at h' ⊢
  have s1 := h'.stored (f.length * 2 + 1) (.int .u16 (x : Int))
  refine ⟨?_, s1.2⟩
  have e : (flat (f ++ [t])).set (f.length * 2 + 1) (.int .u16 (x : Int)) = flat (f ++ [(t.1, x)]) := by
    rw [flat_append, flat_append, ← flat_length f, List.set_append_right _ _ (by omega)]
    simp [flat]
  have := s1.1
  rw [e] at this
  have el : (f ++ [t]).length = (f ++ [(t.1, x)]).length := by simp
  unfold Row
  rw [← el]
  exact this
end Go.Proofs.YtcjpjofoddpfhaaGreat.Xp
/-
  A list of spans that is read; the document's Same of two lists that are the same.
-/
namespace Go.Proofs.YtcjpjofoddpfhaaGreat.Xp
open Go.RowKit
set_option linter.unusedVariables false
set_option linter.unusedSimpArgs false

/-- The slice v of w reads as the list. -/
def Src (w : World) (v : Value) (l : List (Nat × Nat)) : Prop :=
  ∃ (ad : Option Addr) (cap : Nat), v = .slice ad l.length cap ∧ (0 < l.length → ∃ g off, ad = some ⟨g, off, none⟩ ∧ ∀ j u, (flat l)[j]? = some u → w.cell? ⟨g, off + j, none⟩ = some u)
theorem Row.src {w : World} {b : Nat} {v : Value} {l : List (Nat × Nat)} (h : Row w b v l) : Src w v l := by
  rcases h.2 with ⟨hv, hn⟩ | ⟨g, cap, cur, hv, hb, hg, r⟩
  · exact ⟨none, 0, by rw [hv, hn], fun h0 => by omega⟩
  · subst hv
    refine ⟨_, cap, rfl, fun _ => ⟨g, 0, rfl, fun j u hu => ?_⟩⟩
    have := World.ownsRow.cells h (g := g) rfl j u hu
    rwa [Addr.add_lit] at this
theorem Src.keep {w w1 : World} {v : Value} {l : List (Nat × Nat)} (h : Src w v l) (hb : Below w.heap.size w w1) : Src w1 v l := by
  obtain ⟨ad, cap, rfl, h2⟩ := h
  refine ⟨ad, cap, rfl, fun h0 => ?_⟩
  obtain ⟨g, off, rfl, h3⟩ := h2 h0
  exact ⟨g, off, rfl, fun j u hu => by
    have := h3 j u hu
    rw [hb.cell (World.block_lt_of_cell? w _ this)]; exact this⟩
theorem Src.at {w : World} {v : Value} {l : List (Nat × Nat)} (h : Src w v l) : ∃ (ad : Option Addr) (cap : Nat), v = .slice ad l.length cap ∧
    (0 < l.length → ∃ g off, ad = some ⟨g, off, none⟩ ∧ ∀ k (hk : k < l.length), w.cell? ⟨g, off + k * 2, none⟩ = some (.int .u16 ((l[k]'hk).1 : Int)) ∧ w.cell? ⟨g, off + k * 2 + 1, none⟩ = some (.int .u16 ((l[k]'hk).2 : Int))) := by
  obtain ⟨ad, cap, rfl, h2⟩ := h
  refine ⟨ad, cap, rfl, fun h0 => ?_⟩
  obtain ⟨g, off, rfl, h3⟩ := h2 h0
  exact ⟨g, off, rfl, fun k hk => ⟨h3 _ _ (flat_at l k hk).1, by rw [Nat.add_assoc]; exact h3 _ _ (flat_at l k hk).2⟩⟩
/-- A list that is written out, in memory. -/
theorem src_of_cells {w : World} {g : Nat} {cur : Array Value} {l : List (Nat × Nat)} {n cap : Nat} (hg : w.heap[g]? = some (.cells cur 47 (0, 0))) (hc : cur.toList = flat l) (hn : n = l.length) : Src w (.slice (some ⟨g, 0, none⟩) n cap) l := by
  subst hn
  refine ⟨_, cap, rfl, fun _ => ⟨g, 0, rfl, fun j u hu => ?_⟩⟩
  rw [cell_of_row w g (0 + j) cur _ (0, 0) hg, Nat.zero_add, ← Array.getElem?_toList, hc]
  exact hu
end Go.Proofs.YtcjpjofoddpfhaaGreat.Xp
/-
  The fewest stems of a span, and of spans apart: by taking the greatest stem that begins where one stands and ends within the span. No program is named here.
-/
namespace Go.Proofs.YtcjpjofoddpfhaaGreat.Xp
open Go.RowKit
set_option linter.unusedVariables false

/-- The greatest f up to k, for which 2 ^ f ports from a on are a stem within n ports. -/
def mf (a n : Nat) : Nat → Nat
  | 0 => 0
  | f + 1 => if a % 2 ^ (f + 1) = 0 ∧ 2 ^ (f + 1) ≤ n then f + 1 else mf a n f
theorem mf_is (a n : Nat) (hn : 0 < n) : ∀ k, mf a n k ≤ k ∧ 2 ^ mf a n k ∣ a ∧ 2 ^ mf a n k ≤ n ∧ ∀ g, mf a n k < g → g ≤ k → ¬ (2 ^ g ∣ a ∧ 2 ^ g ≤ n)
  | 0 => ⟨Nat.le_refl _, ⟨a, by show a = 2 ^ 0 * a; rw [Nat.pow_zero, Nat.one_mul]⟩, by show 2 ^ 0 ≤ n; rw [Nat.pow_zero]; omega, fun g h1 h2 => absurd h1 (by omega)⟩
  | k + 1 => by
    obtain ⟨h1, h2, h3, h4⟩ := mf_is a n hn k
    unfold mf
    split
    · rename_i h
      exact ⟨Nat.le_refl _, Nat.dvd_of_mod_eq_zero h.1, h.2, fun g h1 h2 => absurd h1 (by omega)⟩
    · rename_i h
      refine ⟨by omega, h2, h3, fun g g1 g2 => ?_⟩
      by_cases hg : g ≤ k
      · exact h4 g g1 hg
      · obtain rfl : g = k + 1 := by omega
        exact fun hc => h ⟨Nat.mod_eq_zero_of_dvd hc.1, hc.2⟩
/-- The greatest f is the one that is found. -/
theorem mf_uniq {a n f : Nat} (hn : 0 < n) (h1 : f ≤ 16) (h2 : 2 ^ f ∣ a) (h3 : 2 ^ f ≤ n) (h4 : f = 16 ∨ ¬ (2 ^ (f + 1) ∣ a ∧ 2 ^ (f + 1) ≤ n)) : mf a n 16 = f := by
  obtain ⟨m1, m2, m3, m4⟩ := mf_is a n hn 16
  rcases Nat.lt_trichotomy (mf a n 16) f with h | h | h
  · exact absurd ⟨h2, h3⟩ (m4 f h h1)
  · exact h
  · rcases h4 with rfl | h4
    · omega
    · exact absurd ⟨Nat.dvd_trans (pow_dvd_le (by omega)) m2, Nat.le_trans (pow_le (by omega)) m3⟩ h4
/-- The stems of the n ports from a on, at most k of them. -/
def grd : Nat → Nat → Nat → List (Nat × Nat)
  | 0, _, _ => []
  | k + 1, a, n => if n = 0 then [] else (a, 16 - mf a n 16) :: grd k (a + 2 ^ mf a n 16) (n - 2 ^ mf a n 16)
theorem grd_zero (k a : Nat) : grd k a 0 = [] := by cases k <;> rfl
theorem grd_succ (k a n : Nat) (h : 0 < n) : grd (k + 1) a n = (a, 16 - mf a n 16) :: grd k (a + 2 ^ mf a n 16) (n - 2 ^ mf a n 16) := by
  show (if n = 0 then _ else _) = _
  rw [if_neg (by omega)]
theorem isMax_run {p : Nat → Bool} {a n : Nat} (h0 : 0 < n) (hf : full p a n) (he : p (a + n) = false ∨ a + n = 65536) (hb : a + n ≤ 65536) : IsMax p a (mf a n 16) := by
  obtain ⟨h1, h2, h3, h4⟩ := mf_is a n h0 16
  refine ⟨h1, h2, full_le hf h3, ?_⟩
  rintro ⟨g1, g2, g3⟩
  have hx := h4 _ (Nat.lt_succ_self _) (by omega)
  have hlt : n < 2 ^ (mf a n 16 + 1) := by
    apply Nat.lt_of_not_le
    exact fun hc => hx ⟨g2, hc⟩
  rcases he with he | he
  · have := g3 (a + n) (by omega) (by omega)
    rw [he] at this; cases this
  · obtain ⟨c, hc⟩ := g2
    obtain ⟨d, hd⟩ : 2 ^ (mf a n 16 + 1) ∣ 65536 := pow_dvd_le (f := mf a n 16 + 1) (g := 16) (by omega)
    generalize 2 ^ (mf a n 16 + 1) = z at *
    subst hc
    have hcd : c < d := by
      have : z * c < z * d := by omega
      exact Nat.lt_of_mul_lt_mul_left this
    have := Nat.mul_le_mul_left z hcd
    rw [Nat.mul_succ] at this
    omega
theorem tiles_run {p : Nat → Bool} {b : Nat} {l : List (Nat × Nat)} : ∀ (k a n : Nat), n ≤ k → full p a n → (p (a + n) = false ∨ a + n = 65536) → a + n ≤ 65536 → a + n ≤ b → Tiles p (a + n) b l → Tiles p a b (grd k a n ++ l)
  | 0, a, n, hk, _, _, _, _, ht => by
    obtain rfl : n = 0 := by omega
    exact ht
  | k + 1, a, n, hk, hf, he, hb, hbb, ht => by
    by_cases h0 : n = 0
    · subst h0; rw [grd_zero]; exact ht
    · have hn : 0 < n := by omega
      rw [grd_succ k a n hn]
      have hm := isMax_run hn hf he hb
      obtain ⟨h1, h2, h3, h4⟩ := mf_is a n hn 16
      generalize mf a n 16 = f at *
      have hp : 0 < 2 ^ f := Nat.pow_pos (by decide)
      have e : a + 2 ^ f + (n - 2 ^ f) = a + n := by omega
      exact .take hm (by omega) (tiles_run k (a + 2 ^ f) (n - 2 ^ f) (by omega) (fun i i1 i2 => hf i (by omega) (by omega)) (by rw [e]; exact he) (by omega) (by omega) (by rw [e]; exact ht))
/-- The fewest stems of spans apart. -/
def grds (l : List (Nat × Nat)) : List (Nat × Nat) := l.flatMap fun s => grd 65536 s.1 (s.2 + 1 - s.1)
theorem tiles_canon {p : Nat → Bool} : ∀ (l : List (Nat × Nat)) (k : Nat), Canon k l → k ≤ 65537 → (∀ i, i < 65536 → k ≤ i → p i = memB l i) → (∀ j, k = j + 1 → j < 65536 → p j = false) → Tiles p (min k 65536) 65536 (grds l)
  | [], k, _, hk, hp, _ => by
    have hb : bare p (min k 65536) (65536 - min k 65536) := fun i h1 h2 => by rw [hp i (by omega) (by omega)]; rfl
    rw [Tiles.skips (65536 - min k 65536) _ hb (by omega), show min k 65536 + (65536 - min k 65536) = 65536 by omega]
    exact .done _
  | s :: l, k, hc, hk, hp, hj => by
    obtain ⟨c1, c2, c3, c4⟩ := hc
    have hs1 : ∀ i, i < 65536 → s.1 ≤ i → i ≤ s.2 → p i = true := fun i h1 h2 h3 => by rw [hp i h1 (by omega), memB_cons, (hasB_iff s i).2 ⟨h2, h3⟩]; rfl
    have hs0 : ∀ i, i < 65536 → k ≤ i → i < s.1 → p i = false := fun i h1 h2 h3 => by
      rw [hp i h1 h2, memB_cons]
      have : hasB s i = false := by rw [← Bool.not_eq_true, hasB_iff]; omega
      rw [this, Bool.false_or, ← Bool.not_eq_true]
      intro hm
      have := (c4.from hm).1
      omega
    have hn : ∀ i, i < 65536 → i = s.2 + 1 → p i = false := fun i h1 h2 => by
      rw [hp i h1 (by omega), memB_cons]
      have : hasB s i = false := by rw [← Bool.not_eq_true, hasB_iff]; omega
      rw [this, Bool.false_or, ← Bool.not_eq_true]
      intro hm
      have := (c4.from hm).1
      omega
    have ih := tiles_canon l (s.2 + 2) c4 (by omega) (fun i h1 h2 => by
      rw [hp i h1 (by omega), memB_cons]
      have : hasB s i = false := by rw [← Bool.not_eq_true, hasB_iff]; omega
      rw [this, Bool.false_or]) (fun j e hj => hn j hj (by omega))
    have ih2 : Tiles p (s.2 + 1) 65536 (grds l) := by
      by_cases h : s.2 + 1 < 65536
      · rw [show min (s.2 + 2) 65536 = s.2 + 1 + 1 by omega] at ih
        exact .skip h (hn _ h rfl) ih
      · rw [show min (s.2 + 2) 65536 = s.2 + 1 by omega] at ih
        exact ih
    have hr := tiles_run (p := p) (b := 65536) (l := grds l) 65536 s.1 (s.2 + 1 - s.1) (by omega) (fun i h1 h2 => hs1 i (by omega) (by omega) (by omega))
      (by
        rw [show s.1 + (s.2 + 1 - s.1) = s.2 + 1 by omega]
        by_cases h : s.2 + 1 < 65536
        · exact .inl (hn _ h rfl)
        · exact .inr (by omega)) (by omega) (by omega) (by rw [show s.1 + (s.2 + 1 - s.1) = s.2 + 1 by omega]; exact ih2)
    rw [show min k 65536 = k by omega]
    have hbr : bare p k (s.1 - k) := fun i h1 h2 => hs0 i (by omega) h1 (by omega)
    rw [Tiles.skips (s.1 - k) k hbr (by omega), show k + (s.1 - k) = s.1 by omega]
    exact hr
/-- The fewest stems of a set, by its spans. -/
theorem tl_canon {p : Nat → Bool} {l : List (Nat × Nat)} (hc : Canon 0 l) (hp : ∀ i, i < 65536 → p i = memB l i) : tl p 16 0 = grds l :=
  (Tiles.is (by have := tiles_canon (p := p) l 0 hc (by omega) (fun i h _ => hp i h) (fun j e _ => by omega); simpa using this)).symm
theorem tl_span {lo hi : Nat} (h1 : lo ≤ hi) (h2 : hi < 65536) : tl (hasB (lo, hi)) 16 0 = grd 65536 lo (hi + 1 - lo) := by
  rw [tl_canon (l := [(lo, hi)]) ⟨Nat.zero_le _, h1, h2, trivial⟩ (fun i _ => by simp [memB_cons, memB_nil])]
  simp [grds]
theorem ex_of : tl (hasB (1, 6)) 16 0 = [(1, 16), (2, 15), (4, 15), (6, 16)] := by rw [tl_span (by decide) (by decide)]; decide +kernel
theorem ex_cnt : (tl (hasB (1, 65534)) 16 0).length = 30 := by rw [tl_span (by decide) (by decide)]; decide +kernel
end Go.Proofs.YtcjpjofoddpfhaaGreat.Xp
/-
  What the functions of expand are to hand back, each as a proposition of its own (proved of the code elsewhere).
-/
namespace Go.Proofs.YtcjpjofoddpfhaaGreat.Xp
open Go.RowKit
set_option linter.unusedVariables false

def CntN : Prop := ∀ (lo hi : Nat) (w : World), lo < 65536 → hi < lo →
    Calls Tryz.prog 43 #[.agg #[.int .u16 lo, .int .u16 hi]] w fun e w' => e = .returned (.tuple #[.int .i64 0, .int .i64 30]) ∧ Below w.heap.size w w'
def CntC : Prop := ∀ (lo hi : Nat) (w : World), lo ≤ hi → hi < 65536 →
    Calls Tryz.prog 43 #[.agg #[.int .u16 lo, .int .u16 hi]] w fun e w' => e = .returned (.tuple #[.int .i64 (((tl (hasB (lo, hi)) 16 0).length : Nat) : Int), .int .i64 0]) ∧ Below w.heap.size w w'
end Go.Proofs.YtcjpjofoddpfhaaGreat.Xp
/-
  Bits of stems.
-/
namespace Go.Proofs.YtcjpjofoddpfhaaGreat.Xp
open Go.RowKit
set_option linter.unusedVariables false

theorem and_low (b k : Nat) : b &&& (2 ^ k - 1) = b % 2 ^ k := Nat.and_two_pow_sub_one_eq_mod b k
theorem xor_high (a b k : Nat) : (a ^^^ b) / 2 ^ k = 0 ↔ a / 2 ^ k = b / 2 ^ k := by
  rw [← Nat.shiftRight_eq_div_pow, ← Nat.shiftRight_eq_div_pow, ← Nat.shiftRight_eq_div_pow, Nat.shiftRight_xor_distrib]
  generalize a >>> k = x
  generalize b >>> k = y
  constructor
  · intro h
    apply Nat.eq_of_testBit_eq
    intro i
    have := congrArg (fun z => z.testBit i) h
    simp only [Nat.testBit_xor, Nat.zero_testBit] at this
    revert this
    cases x.testBit i <;> cases y.testBit i <;> simp
  · rintro rfl; exact Nat.xor_self x
theorem or_top (b k : Nat) (h : b % 2 ^ k = 0) : b ||| (2 ^ k - 1) = b + 2 ^ k - 1 := by
  have hp : 0 < 2 ^ k := Nat.pow_pos (by decide)
  have e := Nat.div_add_mod b (2 ^ k)
  rw [h, Nat.add_zero] at e
  rw [← e, ← Nat.two_pow_add_eq_or_of_lt (by omega)]
  omega
end Go.Proofs.YtcjpjofoddpfhaaGreat.Xp
/-
  Bits of stems as the code reckons them; the greedy stems, one step. No program is named here.
-/
namespace Go.Proofs.YtcjpjofoddpfhaaGreat.Xp
open Go.RowKit
set_option linter.unusedVariables false

theorem tail_is (n : Nat) (h : n ≤ 16) : 65535 / 2 ^ n = 2 ^ (16 - n) - 1 :=
  (by decide +kernel : ∀ n, n < 17 → 65535 / 2 ^ n = 2 ^ (16 - n) - 1) n (by omega)
theorem tail_int (n : Nat) (h : n ≤ 16) : (65535 : Int) / 2 ^ n = ((2 ^ (16 - n) - 1 : Nat) : Int) := by
  rw [← tail_is n h]
  simp
theorem two_pos (k : Nat) : 0 < 2 ^ k := Nat.pow_pos (by decide)
theorem two_le16 {k : Nat} (h : k ≤ 16) : 2 ^ k ≤ 65536 := pow_le (f := k) (g := 16) h
/-- The mask of one bit more. -/
theorem wider_nat (j : Nat) (h : j ≤ 16) : (2 ^ j - 1) * 2 % 65536 ||| 1 = (2 ^ (j + 1) - 1) % 65536 :=
  (by decide +kernel : ∀ j, j < 17 → (2 ^ j - 1) * 2 % 65536 ||| 1 = (2 ^ (j + 1) - 1) % 65536) j (by omega)
theorem wider_lt (j : Nat) (h : j < 16) : (2 ^ (j + 1) - 1) % 65536 = 2 ^ (j + 1) - 1 :=
  (by decide +kernel : ∀ j, j < 16 → (2 ^ (j + 1) - 1) % 65536 = 2 ^ (j + 1) - 1) j h
theorem every_iff (j : Nat) (h : j ≤ 16) : 2 ^ j - 1 = 65535 ↔ j = 16 :=
  (by decide +kernel : ∀ j, j < 17 → (2 ^ j - 1 = 65535 ↔ j = 16)) j (by omega)
theorem andNot_high (q k : Nat) (hq : q < 65536) (hk : k ≤ 16) : q &&& (65535 - (2 ^ k - 1)) = q / 2 ^ k * 2 ^ k := by
  have e : 65535 - (2 ^ k - 1) = (2 ^ (16 - k) - 1) <<< k :=
    (by decide +kernel : ∀ k, k < 17 → 65535 - (2 ^ k - 1) = (2 ^ (16 - k) - 1) <<< k) k (by omega)
  rw [e, ← Nat.shiftRight_eq_div_pow, ← Nat.shiftLeft_eq]
  apply Nat.eq_of_testBit_eq
  intro i
  rw [Nat.testBit_and, Nat.testBit_shiftLeft, Nat.testBit_shiftLeft, Nat.testBit_two_pow_sub_one, Nat.testBit_shiftRight]
  by_cases h1 : k ≤ i
  · by_cases h2 : i < 16
    · have a1 : decide (i ≥ k) = true := decide_eq_true h1
      have a2 : decide (i - k < 16 - k) = true := decide_eq_true (by omega)
      rw [a1, a2, show k + (i - k) = i by omega]
      simp
    · have : q.testBit i = false := Nat.testBit_lt_two_pow (Nat.lt_of_lt_of_le hq (by
        have : 2 ^ 16 ≤ 2 ^ i := Nat.pow_le_pow_right (by decide) (by omega)
        simpa using this))
      rw [show k + (i - k) = i by omega, this]
      simp
  · have a1 : decide (i ≥ k) = false := decide_eq_false (by omega)
    rw [a1]
    simp
/-- The port's bits are the stem's. -/
theorem high_iff (q b k : Nat) (hb : b % 2 ^ k = 0) : q / 2 ^ k * 2 ^ k = b ↔ b / 2 ^ k = q / 2 ^ k := by
  have hp := two_pos k
  have e := Nat.div_add_mod b (2 ^ k)
  rw [hb, Nat.add_zero, Nat.mul_comm] at e
  generalize 2 ^ k = z at *
  constructor
  · intro h
    rw [← e] at h
    exact (Nat.eq_of_mul_eq_mul_right hp h).symm
  · intro h
    rw [← h]; exact e
theorem grd_len : ∀ k a n, (grd k a n).length ≤ k
  | 0, a, n => Nat.le_refl _
  | k + 1, a, n => by
    unfold grd
    split
    · exact Nat.zero_le _
    · rw [List.length_cons]
      exact Nat.succ_le_succ (grd_len k _ _)
theorem grds_len (l : List (Nat × Nat)) : (grds l).length ≤ l.length * 65536 := by
  induction l with
  | nil => exact Nat.zero_le _
  | cons s l ih =>
    have e : grds (s :: l) = grd 65536 s.1 (s.2 + 1 - s.1) ++ grds l := rfl
    rw [e, List.length_append, List.length_cons]
    have := grd_len 65536 s.1 (s.2 + 1 - s.1)
    omega
/-- What has been met, and what is to come. -/
def Gone (lo hi : Nat) (a : Nat) (pre : List (Nat × Nat)) : Prop := ∃ k, hi + 1 - a ≤ k ∧ grd 65536 lo (hi + 1 - lo) = pre ++ grd k a (hi + 1 - a)
theorem Gone.start (lo hi : Nat) (h : hi < 65536) : Gone lo hi lo [] := ⟨65536, by omega, rfl⟩
theorem Gone.step {lo hi a : Nat} {pre : List (Nat × Nat)} (h : Gone lo hi a pre) (ha : a ≤ hi) : Gone lo hi (a + 2 ^ mf a (hi + 1 - a) 16) (pre ++ [(a, 16 - mf a (hi + 1 - a) 16)]) := by
  obtain ⟨k, hk, e⟩ := h
  obtain ⟨k', rfl⟩ : ∃ k', k = k' + 1 := ⟨k - 1, by omega⟩
  rw [grd_succ k' a _ (by omega)] at e
  have hp := two_pos (mf a (hi + 1 - a) 16)
  refine ⟨k', by omega, ?_⟩
  rw [e, List.append_assoc, List.singleton_append, show hi + 1 - (a + 2 ^ mf a (hi + 1 - a) 16) = hi + 1 - a - 2 ^ mf a (hi + 1 - a) 16 by omega]
theorem Gone.done {lo hi a : Nat} {pre : List (Nat × Nat)} (h : Gone lo hi a pre) (ha : hi < a) : pre = grd 65536 lo (hi + 1 - lo) := by
  obtain ⟨k, hk, e⟩ := h
  rw [show hi + 1 - a = 0 by omega, grd_zero, List.append_nil] at e
  exact e.symm
theorem Gone.len {lo hi a : Nat} {pre : List (Nat × Nat)} (h : Gone lo hi a pre) : pre.length ≤ 65536 := by
  obtain ⟨k, hk, e⟩ := h
  have := congrArg List.length e
  rw [List.length_append] at this
  have := grd_len 65536 lo (hi + 1 - lo)
  omega
theorem mf_bd {a hi : Nat} (h : a ≤ hi) : mf a (hi + 1 - a) 16 ≤ 16 ∧ a + 2 ^ mf a (hi + 1 - a) 16 ≤ hi + 1 := by
  obtain ⟨h1, h2, h3, h4⟩ := mf_is a (hi + 1 - a) (by omega) 16
  exact ⟨h1, by omega⟩
end Go.Proofs.YtcjpjofoddpfhaaGreat.Xp
/-
  tail, Check, Has, Span of package expand: what they hand back.
-/
namespace Go.Proofs.YtcjpjofoddpfhaaGreat.Xp
open Go.RowKit
set_option linter.unusedVariables false
set_option linter.unusedSimpArgs false
attribute [local go_sem ↓] Go.wp_at_zero Go.wp_at_succ

/-- The last k bits, all set. -/
def mk (k : Nat) : Nat := 2 ^ k - 1
theorem mk_lt {k : Nat} (h : k ≤ 16) : mk k < 65536 := by
  have := two_le16 h
  have := two_pos k
  unfold mk; omega
theorem and_mk (b k : Nat) (hb : b < 65536) (hk : k ≤ 16) : bits .and .u16 (b : Int) (mk k : Int) = ((b % 2 ^ k : Nat) : Int) := by
  rw [u16_and_nat b (mk k) hb (mk_lt hk)]
  unfold mk
  rw [and_low]
theorem andNot_mk (q k : Nat) (hq : q < 65536) (hk : k ≤ 16) : bits .andNot .u16 (q : Int) (mk k : Int) = ((q / 2 ^ k * 2 ^ k : Nat) : Int) := by
  rw [u16_andNot_nat q (mk k) hq (mk_lt hk)]
  unfold mk
  rw [andNot_high q k hq hk]
theorem or_mk (b k : Nat) (hb : b < 65536) (hk : k ≤ 16) (h : b % 2 ^ k = 0) : bits .or .u16 (b : Int) (mk k : Int) = ((b + 2 ^ k - 1 : Nat) : Int) := by
  rw [u16_or_nat b (mk k) hb (mk_lt hk)]
  unfold mk
  rw [or_top b k h]
theorem tailT (n : Nat) (hn : n ≤ 16) (w : World) :
    Calls Tryz.prog 92 #[.int .i64 n] w fun e w' => e = .returned (.int .u16 (mk (16 - n) : Int)) ∧ w' = w := by
  have h0 : (0 : Int) ≤ (n : Int) := by omega
  have h1 : (n : Int) ≤ 16 := by omega
  have ht : (65535 : Int) / 2 ^ n = (mk (16 - n) : Int) := tail_int n hn
  go_enter Tryz.func92, Tryz.ntmps92
  go_wp2
  go_ret
  exact ⟨rfl, rfl⟩
end Go.Proofs.YtcjpjofoddpfhaaGreat.Xp
/-
  shortest of package expand: the greatest stem from a port on, up to another.
-/
namespace Go.Proofs.YtcjpjofoddpfhaaGreat.Xp
open Go.RowKit
set_option linter.unusedVariables false
set_option linter.unusedSimpArgs false

theorem or_wider (j : Nat) (h : j < 16) : bits .or .u16 ((mk j : Int) * 2) 1 = (mk (j + 1) : Int) := by
  have h1 := wider_nat j (by omega)
  have h2 := mk_lt (show j + 1 ≤ 16 by omega)
  have hp := two_pos j
  have e : mk (j + 1) = mk j * 2 + 1 := by unfold mk; rw [Nat.pow_succ]; omega
  have h3 : mk j * 2 < 65536 := by omega
  have h4 := u16_or_nat (mk j * 2) 1 h3 (by decide)
  have h5 : mk j * 2 ||| 1 = mk (j + 1) := by
    have : (2 ^ j - 1) * 2 % 65536 = mk j * 2 := Nat.mod_eq_of_lt h3
    rw [this, wider_lt j h] at h1
    exact h1
  rw [h5] at h4
  simpa using h4
theorem mf_fin {a hi j : Nat} (h : a ≤ hi) (hj : j ≤ 16) (hd : 2 ^ j ∣ a ∧ 2 ^ j ≤ hi + 1 - a) (hx : j = 16 ∨ a % 2 ^ (j + 1) ≠ 0 ∨ hi - a < mk (j + 1)) : (16 : Int) - (j : Int) = ((16 - mf a (hi + 1 - a) 16 : Nat) : Int) := by
  rw [mf_uniq (f := j) (by omega) hj hd.1 hd.2]
  · omega
  · rcases hx with hx | hx | hx
    · exact .inl hx
    · exact .inr fun hc => hx (Nat.mod_eq_zero_of_dvd hc.1)
    · refine .inr fun hc => ?_
      have := two_pos (j + 1)
      unfold mk at hx
      omega
theorem mf_next {a hi j : Nat} (h : a ≤ hi) (h1 : a % 2 ^ (j + 1) = 0) (h2 : ¬ hi - a < mk (j + 1)) : 2 ^ (j + 1) ∣ a ∧ 2 ^ (j + 1) ≤ hi + 1 - a := by
  refine ⟨Nat.dvd_of_mod_eq_zero h1, ?_⟩
  have := two_pos (j + 1)
  unfold mk at h2
  omega
theorem mk_step {j : Nat} (h : j < 16) : mk j < mk (j + 1) ∧ mk (j + 1) < 65536 := by
  have hp := two_pos j
  have e : mk (j + 1) = mk j * 2 + 1 := by unfold mk; rw [Nat.pow_succ]; omega
  exact ⟨by omega, mk_lt (by omega)⟩
set_option maxHeartbeats 1000000 in
set_option maxRecDepth 20000 in
theorem shortT (a hi : Nat) (h : a ≤ hi) (hh : hi < 65536) (w : World) :
    Calls Tryz.prog 91 #[.int .u16 a, .int .u16 hi] w fun e w' => e = .returned (.agg #[.int .u16 (a : Nat), .int .i64 ((16 - mf a (hi + 1 - a) 16 : Nat) : Int)]) ∧ Below w.heap.size w w' := by
  have ha : a < 65536 := by omega
  go_enter Tryz.func91, Tryz.ntmps91
  go_wp2
  go_step3
  go_wp2
  go_step3
  go_wp2
  go_loopw [6] (fun bv wr => ∃ j : Nat, j ≤ 16 ∧ bv = .int .u16 (mk j : Int) ∧ wr.cell? ⟨w.heap.size + 1, 0, none⟩ = some (.int .u16 a) ∧ wr.cell? ⟨w.heap.size + 1, 1, none⟩ = some (.int .i64 (16 - (j : Int))) ∧ wr.frozen? ⟨w.heap.size + 1, 1, none⟩ = false ∧ wr.cell? ⟨w.heap.size, 0, none⟩ = some (.int .u16 0) ∧ wr.cell? ⟨w.heap.size, 1, none⟩ = some (.int .i64 0) ∧ wr.frozen? ⟨w.heap.size, 0, none⟩ = false ∧ wr.frozen? ⟨w.heap.size, 1, none⟩ = false ∧ Hid (2 ^ j ∣ a ∧ 2 ^ j ≤ hi + 1 - a) ∧ Hid (Below w.heap.size w wr)) (fun bv _ => 65535 - (intOf bv).toNat)
  case atStart => exact ⟨0, by omega, rfl, by simp [go_sem], by simp [go_sem], by simp [go_sem], by simp [go_sem], by simp [go_sem], by simp [go_sem], by simp [go_sem], ⟨by simp, by omega⟩, by show Below _ _ _; (repeat (first | assumption | exact Below.refl _ _ | refine Below.drew ?_ | refine bel_drewN ?_ _ | refine Below.setCell ?_ (by first | omega | (simp; done) | (simp; omega)) _ | refine Below.alloc ?_ (by first | omega | (simp; done) | (simp; omega)) _ | refine bel_of ?_ (by assumption)))⟩
  case round =>
    obtain ⟨j, hj, rfl, c0, c1, f1, r0, r1, g0, g1, hd, hb⟩ := hrel
    have hlt : (mk j : Int) < 65536 := by have := mk_lt hj; omega
    have h0 : (0 : Int) ≤ (mk j : Int) := by omega
    by_cases h16 : j = 16
    · have e16 : (mk j : Int) = 65535 := by rw [h16]; rfl
      have hO : bits .or .u16 65534 1 = 65535 := by decide +kernel
      have HF : Hid ((16 : Int) - (j : Int) = ((16 - mf a (hi + 1 - a) 16 : Nat) : Int)) := mf_fin h hj hd.out (.inl h16)
      clear h16
      rw [e16]
      go_wp2
      rw [Exit.noGoto_ret]
      exact bodyPost_ret (v := .agg #[.int .u16 (a : Nat), .int .i64 (16 - (j : Int))]) (by simp [results, Tryz.results91, go_sem, *]) rfl ⟨by rw [HF.out], by have := hb.out; (repeat (first | assumption | exact Below.refl _ _ | refine Below.drew ?_ | refine bel_drewN ?_ _ | refine Below.setCell ?_ (by first | omega | (simp; done) | (simp; omega)) _ | refine Below.alloc ?_ (by first | omega | (simp; done) | (simp; omega)) _ | refine bel_of ?_ (by assumption)))⟩
    · have hj' : j < 16 := by omega
      have ⟨s1, s2⟩ := mk_step hj'
      have hO := or_wider j hj'
      have hA := and_mk a (j + 1) ha (by omega)
      have hx1 : a % 2 ^ (j + 1) = 0 → ¬ hi - a < mk (j + 1) → Hid (2 ^ (j + 1) ∣ a ∧ 2 ^ (j + 1) ≤ hi + 1 - a) := fun h1 h2 => mf_next h h1 h2
      have hx2 : a % 2 ^ (j + 1) ≠ 0 ∨ hi - a < mk (j + 1) → Hid ((16 : Int) - (j : Int) = ((16 - mf a (hi + 1 - a) 16 : Nat) : Int)) := fun h1 => mf_fin h hj hd.out (.inr h1)
      have h2 : (mk j : Int) * 2 < 65536 := by
        have hp := two_pos j
        have e : mk (j + 1) = mk j * 2 + 1 := by unfold mk; rw [Nat.pow_succ]; omega
        omega
      obtain ⟨y, hy⟩ : ∃ y : Nat, y = mk (j + 1) := ⟨_, rfl⟩
      obtain ⟨q, hq⟩ : ∃ q : Nat, q = mk j := ⟨_, rfl⟩
      obtain ⟨x, hx⟩ : ∃ x : Nat, x = a % 2 ^ (j + 1) := ⟨_, rfl⟩
      rw [← hy, ← hx] at hx1 hx2 hA
      rw [← hy, ← hq] at hO s1
      rw [← hy] at s2
      rw [← hq] at h2 hlt h0 ⊢
      have HY : Hid (y = mk (j + 1)) := hy
      clear hy hq hx
      have e16 : (q : Int) < 65535 := by omega
      have e17 : ((q : Int) == 65535) = false := by rw [beq_eq_false_iff_ne]; omega
      have e18 : ¬ q = 65535 := by omega
      have hW : IntKind.u16.wrap ((q : Int) * 2) = (q : Int) * 2 := by
        simp [IntKind.wrap, IntKind.signed, IntKind.bits]
        omega
      have hha : (a : Int) ≤ (hi : Int) := by omega
      have hs2 : (y : Int) < 65536 := by omega
      have hs1 : (q : Int) < (y : Int) := by omega
      by_cases hx : x = 0
      · subst hx
        have hA' : bits .and .u16 (a : Int) (y : Int) = 0 := hA
        clear hA
        by_cases hy : hi - a < y
        · have HF := hx2 (.inr hy)
          have hy' : (hi : Int) - (a : Int) < (y : Int) := by omega
          clear hx1 hx2 hy s1 s2 hd hj' h hh ha
          go_wp2
          rw [Exit.noGoto_ret]
          exact bodyPost_ret (v := .agg #[.int .u16 (a : Nat), .int .i64 (16 - (j : Int))]) (by simp [results, Tryz.results91, go_sem, *]) rfl ⟨by rw [HF.out], by have := hb.out; (repeat (first | assumption | exact Below.refl _ _ | refine Below.drew ?_ | refine bel_drewN ?_ _ | refine Below.setCell ?_ (by first | omega | (simp; done) | (simp; omega)) _ | refine Below.alloc ?_ (by first | omega | (simp; done) | (simp; omega)) _ | refine bel_of ?_ (by assumption)))⟩
        · have HF := hx1 rfl hy
          have hy' : (y : Int) ≤ (hi : Int) - (a : Int) := by omega
          have hy2 : ¬ (hi : Int) - (a : Int) < (y : Int) := by omega
          have hj0 : (j : Int) < 16 := by omega
          have hhi : (hi : Int) < 65536 := by omega
          have ha0 : (0 : Int) ≤ (a : Int) := by omega
          have hj1 : (0 : Int) ≤ (j : Int) := by omega
          clear hx1 hx2 hy s1 s2 h hh ha
          go_wp2
          go_roundw
          case rel =>
            rw [show (16 : Int) - (j : Int) - 1 = 16 - ((j + 1 : Nat) : Int) by omega]
            exact ⟨j + 1, by omega, by rw [HY.out], (World.cell?_setCell_other _ _ _ _ (by simp)).trans c0, World.cell?_setCell_same _ _ _ c1, by rw [World.frozen?_setCell]; exact f1, (World.cell?_setCell_other _ _ _ _ (by simp)).trans r0, (World.cell?_setCell_other _ _ _ _ (by simp)).trans r1, by rw [World.frozen?_setCell]; exact g0, by rw [World.frozen?_setCell]; exact g1, HF, by show Below _ _ _; have := hb.out; (repeat (first | assumption | exact Below.refl _ _ | refine Below.drew ?_ | refine bel_drewN ?_ _ | refine Below.setCell ?_ (by first | omega | (simp; done) | (simp; omega)) _ | refine Below.alloc ?_ (by first | omega | (simp; done) | (simp; omega)) _ | refine bel_of ?_ (by assumption)))⟩
          case measure => simp [intOf]; omega
      · have HF := hx2 (.inl hx)
        have hne2 : (0 : Int) < (x : Int) := by omega
        have hne3 : ((x : Int) != 0) = true := by simpa using hx
        have hne4 : ¬ x = 0 := hx
        clear hx1 hx2 hx s1 s2 h hh ha
        go_wp2
        rw [Exit.noGoto_ret]
        exact bodyPost_ret (v := .agg #[.int .u16 (a : Nat), .int .i64 (16 - (j : Int))]) (by simp [results, Tryz.results91, go_sem, *]) rfl ⟨by rw [HF.out], by have := hb.out; (repeat (first | assumption | exact Below.refl _ _ | refine Below.drew ?_ | refine bel_drewN ?_ _ | refine Below.setCell ?_ (by first | omega | (simp; done) | (simp; omega)) _ | refine Below.alloc ?_ (by first | omega | (simp; done) | (simp; omega)) _ | refine bel_of ?_ (by assumption)))⟩
end Go.Proofs.YtcjpjofoddpfhaaGreat.Xp
/-
  The closures that are handed to climb; climb; cover; Of and Count of package expand.
-/
namespace Go.Proofs.YtcjpjofoddpfhaaGreat.Xp
open Go.RowKit
set_option linter.unusedVariables false
set_option linter.unusedSimpArgs false

/-- The variable in block B counts. -/
def Tal (B : Nat) (w : World) (n : Nat) : Prop := w.heap[B]? = some (.cells #[.int .i64 (n : Int)] 3 (0, 0))
theorem Tal.on {B : Nat} {w w1 : World} {n : Nat} (h : Tal B w n) (hb : Below w.heap.size w w1) : Tal B w1 n := by
  unfold Tal at *
  rw [hb.block B (lt_of_block h)]; exact h
theorem Tal.alloc {B : Nat} {w : World} {n : Nat} (h : Tal B w n) (o : Obj) : Tal B (w.alloc o) n := h.on ((Below.refl _ _).alloc (Nat.le_refl _) o)
theorem tallyT (B b n k : Nat) (W : World) (h : Tal B W k) (hk : k < 4294967296) :
    Calls Tryz.prog 67 #[.agg #[.int .u16 (b : Nat), .int .i64 (n : Nat)], .pointer (some ⟨B, 0, none⟩)] W fun e W' => e = .returned (.tuple #[]) ∧ Tal B W' (k + 1) ∧ Below B W W' ∧ ∀ x, x < W.heap.size → x ≠ B → W'.heap[x]? = W.heap[x]? := by
  have hlt := lt_of_block h
  have cB : W.cell? ⟨B, 0, none⟩ = some (.int .i64 (k : Int)) := cell_of_one h
  have fB : W.frozen? ⟨B, 0, none⟩ = false := free_of_one h
  have HB : Hid (Tal B W k) := h
  clear h
  go_enter Tryz.func67, Tryz.ntmps67
  go_wp2
  go_end0
  have hz : (W.setCell ⟨B, 0, none⟩ (.int .i64 ((k : Int) + 1))).heap.size = W.heap.size := by simp
  refine ⟨rfl, ?_, ?_, ?_⟩
  · unfold Tal
    rw [Below.heap_alloc _ _ _ (by omega)]
    exact one_setCell HB.out
  · exact (Below.setCell (p := ⟨B, 0, none⟩) (Below.refl B W) (Nat.le_refl B) _).alloc (by omega) _
  · intro x hx hne
    rw [Below.heap_alloc _ _ _ (by omega), Below.heap_setCell _ _ _ _ hne]
set_option maxHeartbeats 1000000 in
theorem climbN (lo hi B : Nat) (k0 : Nat) (w : World) (h : lo ≤ hi) (hh : hi < 65536) (hM : Tal B w k0) (hl : k0 + 65536 ≤ 4294967296) :
    Calls Tryz.prog 66 #[.agg #[.int .u16 lo, .int .u16 hi], .func (.func 67) #[] #[.pointer (some ⟨B, 0, none⟩)]] w fun e w' => e = .returned (.tuple #[]) ∧ Tal B w' (k0 + (grd 65536 lo (hi + 1 - lo)).length) ∧ Below B w w' := by
  have hBlt : B < w.heap.size := lt_of_block hM
  have HM : Hid (Tal B w k0) := hM
  clear hM
  go_enter Tryz.func66, Tryz.ntmps66
  go_wp2
  go_loopw [4] (fun iv wr => ∃ (a : Nat) (pre : List (Nat × Nat)), a ≤ hi + 1 ∧ iv = .int .i64 (a : Int) ∧ Hid (wr.heap[w.heap.size]? = some (.cells #[.int .u16 (lo : Int), .int .u16 (hi : Int)] 47 (0, 0))) ∧ Hid (Gone lo hi a pre) ∧ Hid (Tal B wr (k0 + pre.length)) ∧ Hid (Below B w wr)) (fun iv _ => hi + 1 - (intOf iv).toNat)
  case atStart => exact ⟨lo, [], by omega, rfl, heap_alloc_new _ _, Gone.start lo hi hh, by show Tal B _ (k0 + 0); exact HM.out.alloc _, by show Below _ _ _; (repeat (first | assumption | exact Below.refl _ _ | refine Below.drew ?_ | refine bel_drewN ?_ _ | refine Below.setCell ?_ (by first | omega | (simp; done) | (simp; omega)) _ | refine Below.alloc ?_ (by first | omega | (simp; done) | (simp; omega)) _ | refine bel_of ?_ (by assumption)))⟩
  case round =>
    obtain ⟨a, pre, ha, rfl, hbox, hgo, hmet, hbl⟩ := hrel
    have y1 : wr.cell? ⟨w.heap.size, 1, none⟩ = some (.int .u16 (hi : Int)) := by simp [World.cell?, hbox.out]
    have hz : w.heap.size < wr.heap.size := lt_of_block hbox.out
    by_cases hle : a ≤ hi
    · have hle' : (a : Int) ≤ (hi : Int) := by omega
      have ha6 : (a : Int) < 65536 := by omega
      have ha0 : (0 : Int) ≤ (a : Int) := by omega
      have hst : Hid (Gone lo hi (a + 2 ^ mf a (hi + 1 - a) 16) (pre ++ [(a, 16 - mf a (hi + 1 - a) 16)])) := hgo.out.step hle
      have hln : Hid ((k0 + pre.length) < 4294967296) := by
        show _ < _
        have := hst.out.len
        simp at this ⊢
        omega
      obtain ⟨m1, m2⟩ := mf_bd hle
      have hsh := fun W => shortT a hi hle hh W
      generalize mf a (hi + 1 - a) 16 = f at *
      obtain ⟨L, hL⟩ : ∃ L : Nat, L = 16 - f := ⟨_, rfl⟩
      rw [← hL] at hst hsh
      have hL16 : L ≤ 16 := by omega
      have hf : Hid (f = 16 - L) := by show _ = _; omega
      have hmk : Hid (mk (16 - L) + 1 = 2 ^ f) := by
        show _ = _
        rw [← hf.out]
        have := two_pos f
        unfold mk; omega
      have hmk2 : Hid (a + (mk (16 - L) + 1) ≤ hi + 1) := by show _ ≤ _; rw [hmk.out]; exact m2
      clear m1 m2 hL
      go_wp2_with (fail)
      refine (hsh _).mono ?_
      rintro e w1 ⟨rfl, hb1⟩
      have hz1 := hb1.size
      have hmet1 : Hid (Tal B w1 (k0 + pre.length)) := hmet.out.on hb1
      have hbox1 : Hid (w1.heap[w.heap.size]? = some (.cells #[.int .u16 (lo : Int), .int .u16 (hi : Int)] 47 (0, 0))) := by show _ = _; rw [hb1.block _ hz]; exact hbox.out
      have hbl1 : Hid (Below B w w1) := hbl.out.trans (hb1.mono (by omega))
      clear hb1 hbox hmet hbl y1 hsh
      go_wp2_with (fail)
      refine (tallyT B a L (k0 + pre.length) _ (hmet1.out.alloc _) hln.out).mono ?_
      rintro e w2 ⟨rfl, hmet2, hk2⟩
      have hbk : w2.heap[w1.heap.size]? = some (.cells #[.int .u16 (a : Int), .int .i64 (L : Int)] 90 (0, 0)) := (by rw [hk2.2 _ (by simp) (by omega)]; exact heap_alloc_new _ _)
      have t1 : w2.cell? ⟨w1.heap.size, 1, none⟩ = some (.int .i64 (L : Int)) := by simp [World.cell?, hbk]
      have hbox2 : Hid (w2.heap[w.heap.size]? = some (.cells #[.int .u16 (lo : Int), .int .u16 (hi : Int)] 47 (0, 0))) := (by show _ = _; rw [hk2.2 _ (by simp; omega) (by omega), Below.heap_alloc _ _ _ (by omega)]; exact hbox1.out)
      have hbl2 : Hid (Below B w w2) := (hbl1.out.alloc (by omega) _).trans hk2.1
      have HMet : Hid (Tal B w2 (k0 + pre.length + 1)) := hmet2
      have hmkl : (mk (16 - L) : Int) < 65536 := by have := mk_lt (show 16 - L ≤ 16 by omega); omega
      have hmk0 : (0 : Int) ≤ (mk (16 - L) : Int) := by omega
      clear hbk hk2 hmet2 hmet1 hbox1 hbl1
      go_wp2_with (go_at_call 92; refine (tailT L hL16 _).mono ?_; rintro e w' ⟨rfl, hw⟩; obtain rfl := hw.symm; clear hw)
      go_roundw
      case rel => exact ⟨a + 2 ^ f, pre ++ [(a, L)], by rw [← hmk.out]; exact hmk2.out, by rw [← hmk.out]; go_num, hbox2.out, hst.out, by show Tal B _ _; rw [List.length_append]; exact HMet.out, hbl2.out⟩
      case measure => simp [intOf]; have := hmk2.out; omega
    · obtain rfl : a = hi + 1 := by omega
      have hle' : ¬ ((hi + 1 : Nat) : Int) ≤ (hi : Int) := by omega
      have hle2 : (hi : Int) < ((hi + 1 : Nat) : Int) := by omega
      have e := hgo.out.done (by omega)
      have hfin : Hid (Tal B wr (k0 + (grd 65536 lo (hi + 1 - lo)).length)) := by show Tal B wr (k0 + (grd 65536 lo (hi + 1 - lo)).length); rw [← e]; exact hmet.out
      clear e
      go_wp2
      go_end0
      exact ⟨rfl, hfin.out, hbl.out⟩
end Go.Proofs.YtcjpjofoddpfhaaGreat.Xp
/-
  cover, Of and Count of package expand.
-/
namespace Go.Proofs.YtcjpjofoddpfhaaGreat.Xp
open Go.RowKit
set_option linter.unusedVariables false
set_option linter.unusedSimpArgs false

theorem cntN : CntN := by
  intro lo hi w hlo h
  have hk : chkS lo hi = 30 := if_pos h
  have hc := fun W => checkS lo hi W
  rw [hk] at hc
  clear hk
  go_enter Tryz.func43, Tryz.ntmps43
  go_wp2_with (go_at_call 26; refine (hc _).mono ?_; rintro e w1 ⟨rfl, hb1⟩)
  go_ret2
  exact ⟨rfl, by (repeat (first | assumption | exact Below.refl _ _ | refine Below.drew ?_ | refine bel_drewN ?_ _ | refine Below.setCell ?_ (by first | omega | (simp; done) | (simp; omega)) _ | refine Below.alloc ?_ (by first | omega | (simp; done) | (simp; omega)) _ | refine bel_of ?_ (by assumption)))⟩
set_option maxHeartbeats 1000000 in
theorem cntC : CntC := by
  intro lo hi w h hh
  have hk : chkS lo hi = 0 := if_neg (by omega)
  have hc := fun W => checkS lo hi W
  rw [hk] at hc
  clear hk
  rw [tl_span h hh]
  go_enter Tryz.func43, Tryz.ntmps43
  go_wp2_with (fail)
  refine (hc _).mono ?_
  rintro e w1 ⟨rfl, hb1⟩
  have z0 : w1.cell? ⟨w.heap.size, 0, none⟩ = some (.int .u16 lo) := cell_on hb1 (by simp [go_sem])
  have z1 : w1.cell? ⟨w.heap.size, 1, none⟩ = some (.int .u16 hi) := cell_on hb1 (by simp [go_sem])
  have hz1 := hb1.size
  simp at hz1
  have z2 : (w1.alloc (.cells #[.int .i64 0] 3)).cell? ⟨w.heap.size, 0, none⟩ = some (.int .u16 lo) := cell_alloc z0
  have z3 : (w1.alloc (.cells #[.int .i64 0] 3)).cell? ⟨w.heap.size, 1, none⟩ = some (.int .u16 hi) := cell_alloc z1
  have HB : Hid (Below w.heap.size w w1) := by show Below _ _ _; (repeat (first | assumption | exact Below.refl _ _ | refine Below.drew ?_ | refine bel_drewN ?_ _ | refine Below.setCell ?_ (by first | omega | (simp; done) | (simp; omega)) _ | refine Below.alloc ?_ (by first | omega | (simp; done) | (simp; omega)) _ | refine bel_of ?_ (by assumption)))
  clear hb1
  go_wp2_with (fail)
  refine (climbN lo hi w1.heap.size 0 _ h hh (heap_alloc_new _ _) (by omega)).mono ?_
  rintro e w2 ⟨rfl, ht2, hb2⟩
  rw [Nat.zero_add] at ht2
  have c2 := cell_of_one ht2
  have HB2 : Hid (Below w.heap.size w w2) := (HB.out.alloc (by omega) _).trans (hb2.mono (by omega))
  clear ht2 hb2
  go_wp2
  go_ret2
  exact ⟨rfl, HB2.out⟩
end Go.Proofs.YtcjpjofoddpfhaaGreat.Xp
/-
  Two stems: one holds all of the other one, or they share no port.
-/
namespace Go.Proofs.YtcjpjofoddpfhaaGreat.Xp
open Go.RowKit
set_option linter.unusedVariables false

theorem in_block {b : Nat} {n : Int} (h : mayT b n = true) (q : Nat) : b / 2 ^ (16 - n.toNat) = q / 2 ^ (16 - n.toNat) ↔ b ≤ q ∧ q ≤ topT b n := by
  have hmm : 0 ≤ n ∧ n ≤ 16 ∧ b % 2 ^ (16 - n.toNat) = 0 := of_decide_eq_true h
  unfold topT
  have hp : 0 < 2 ^ (16 - n.toNat) := Nat.pow_pos (by decide)
  have e := Nat.div_add_mod b (2 ^ (16 - n.toNat))
  rw [hmm.2.2, Nat.add_zero] at e
  have e2 := Nat.div_add_mod q (2 ^ (16 - n.toNat))
  have e3 := Nat.mod_lt q hp
  generalize 2 ^ (16 - n.toNat) = z at *
  constructor
  · intro he
    rw [← he] at e2
    omega
  · rintro ⟨h1, h2⟩
    generalize b / z = k at *
    generalize q / z = j at *
    subst e
    have h3 : k ≤ j := by
      apply Nat.le_of_not_lt
      intro hc
      have := Nat.mul_le_mul_left z hc
      rw [Nat.mul_succ] at this
      omega
    have h4 : j ≤ k := by
      apply Nat.le_of_not_lt
      intro hc
      have := Nat.mul_le_mul_left z hc
      rw [Nat.mul_succ] at this
      omega
    omega
theorem hasT_is {b : Nat} {n : Int} (h : mayT b n = true) (q : Nat) : hasT b n q = hasB (b, topT b n) q := by
  rw [Bool.eq_iff_iff, hasB_iff]
  unfold hasT
  rw [h, Bool.true_and, decide_eq_true_iff]
  exact in_block h q
theorem stem_in {b c : Nat} {n m : Int} (h1 : mayT b n = true) (h2 : mayT c m = true) (hnm : n ≤ m) (hm : max b c ≤ min (topT b n) (topT c m)) : b ≤ c ∧ topT c m ≤ topT b n := by
  have g1 : 0 ≤ n ∧ n ≤ 16 ∧ b % 2 ^ (16 - n.toNat) = 0 := of_decide_eq_true h1
  have g2 : 0 ≤ m ∧ m ≤ 16 ∧ c % 2 ^ (16 - m.toNat) = 0 := of_decide_eq_true h2
  have e : 2 ^ (16 - n.toNat) = 2 ^ (16 - m.toNat) * 2 ^ (m.toNat - n.toNat) := by rw [← Nat.pow_add]; congr 1; omega
  have k1 := (in_block h1 (max b c)).2 ⟨by omega, by omega⟩
  have k2 := (in_block h2 (max b c)).2 ⟨by omega, by omega⟩
  have hct : c ≤ topT c m := by omega
  have k3 := (in_block h2 (topT c m)).2 ⟨hct, Nat.le_refl _⟩
  have d1 : c / 2 ^ (16 - n.toNat) = (max b c) / 2 ^ (16 - n.toNat) := by rw [e, ← Nat.div_div_eq_div_mul, k2, Nat.div_div_eq_div_mul]
  have d2 : topT c m / 2 ^ (16 - n.toNat) = c / 2 ^ (16 - n.toNat) := by rw [e, ← Nat.div_div_eq_div_mul, ← k3, Nat.div_div_eq_div_mul]
  have r1 := (in_block h1 c).1 (k1.trans d1.symm)
  have r2 := (in_block h1 (topT c m)).1 (k1.trans (d1.symm.trans d2.symm))
  exact ⟨r1.1, r2.2⟩
theorem stems_meet {b c : Nat} {n m : Int} (h1 : mayT b n = true) (h2 : mayT c m = true) (hm : max b c ≤ min (topT b n) (topT c m)) :
    (max b c = b ∧ min (topT b n) (topT c m) = topT b n) ∨ (max b c = c ∧ min (topT b n) (topT c m) = topT c m) := by
  rcases Int.le_total n m with h | h
  · have := stem_in h1 h2 h hm
    right; omega
  · have := stem_in h2 h1 h (by omega)
    left; omega
theorem both_meet {b c : Nat} {n m : Int} (h1 : mayT b n = true) (h2 : mayT c m = true) (q : Nat) : (hasT b n q && hasT c m q) = hasB (max b c, min (topT b n) (topT c m)) q := by
  rw [hasT_is h1, hasT_is h2, Bool.eq_iff_iff, Bool.and_eq_true, hasB_iff, hasB_iff, hasB_iff]
  simp only
  omega
theorem both_none {b c : Nat} {n m : Int} (h1 : mayT b n = true) (h2 : mayT c m = true) (hm : ¬ max b c ≤ min (topT b n) (topT c m)) (q : Nat) : (hasT b n q && hasT c m q) = false := by
  rw [both_meet h1 h2, ← Bool.not_eq_true, hasB_iff]
  simp only
  omega
end Go.Proofs.YtcjpjofoddpfhaaGreat.Xp
/-
  How many stems a span has.
-/
namespace Go.Proofs.YtcjpjofoddpfhaaGreat.Xp
open Go.RowKit
set_option linter.unusedVariables false

theorem inS_is (lo hi : Nat) : inS lo hi = hasB (lo, hi) := by
  funext i
  rw [Bool.eq_iff_iff, hasB_iff]
  simp [inS]
theorem ofS_len {lo hi : Nat} : (tl (hasB (lo, hi)) 16 0).length ≤ 30 := by
  have := tl_few lo hi 16 0 (by decide)
  rw [inS_is] at this
  exact this
theorem ofS_count {lo hi : Nat} (q : Nat) (hq : q < 65536) : (tl (hasB (lo, hi)) 16 0).countP (hos q) = if hasB (lo, hi) q = true then 1 else 0 := by
  rw [tl_count (hasB (lo, hi)) q 16 0 (Nat.le_refl _) ⟨0, by simp⟩]
  have : decide (0 ≤ q ∧ q < 0 + 2 ^ 16) = true := decide_eq_true ⟨Nat.zero_le _, by omega⟩
  rw [this, Bool.true_and]
theorem ofS_pos {lo hi : Nat} (h1 : lo ≤ hi) (h2 : hi < 65536) : 1 ≤ (tl (hasB (lo, hi)) 16 0).length := by
  have h := ofS_count (lo := lo) (hi := hi) lo (by omega)
  rw [if_pos ((hasB_iff _ _).2 ⟨Nat.le_refl _, h1⟩)] at h
  have := List.countP_le_length (p := hos lo) (l := tl (hasB (lo, hi)) 16 0)
  omega
end Go.Proofs.YtcjpjofoddpfhaaGreat.Xp
