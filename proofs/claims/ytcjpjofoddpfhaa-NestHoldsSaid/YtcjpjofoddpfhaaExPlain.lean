/-
  The fewest stems of a set of ports: plain mathematics, no program is named here. 'ah': how many of the set lie below a place; 'tl': the document's way, by halves; 'Tiles': any way that goes up from place to place and takes at each place of the set the greatest stem that begins there: both tell one list.
-/
import Derived.RowKit
namespace Go.Proofs.Ytcjpjofoddpfhaa.Xp
open Go.RowKit
set_option linter.unusedVariables false

/-- How many of the set lie below i. -/
def ah (p : Nat → Bool) : Nat → Nat
  | 0 => 0
  | i + 1 => ah p i + if p i then 1 else 0
def full (p : Nat → Bool) (a n : Nat) : Prop := ∀ i, a ≤ i → i < a + n → p i = true
def bare (p : Nat → Bool) (a n : Nat) : Prop := ∀ i, a ≤ i → i < a + n → p i = false
theorem ah_step (p : Nat → Bool) (a n : Nat) : ah p (a + (n + 1)) = ah p (a + n) + if p (a + n) then 1 else 0 := rfl
theorem ah_bd (p : Nat → Bool) (a : Nat) : ∀ n, ah p a ≤ ah p (a + n) ∧ ah p (a + n) ≤ ah p a + n
  | 0 => ⟨Nat.le_refl _, Nat.le_refl _⟩
  | n + 1 => by
    have := ah_bd p a n
    rw [ah_step]
    split <;> omega
theorem ah_le (p : Nat → Bool) (n : Nat) : ah p n ≤ n := by
  have := (ah_bd p 0 n).2
  rw [Nat.zero_add] at this
  have e : ah p 0 = 0 := rfl
  omega
theorem ah_full (p : Nat → Bool) (a : Nat) : ∀ n, ah p (a + n) = ah p a + n ↔ full p a n
  | 0 => ⟨fun _ i h1 h2 => by omega, fun _ => rfl⟩
  | n + 1 => by
    have ih := ah_full p a n
    have bd := ah_bd p a n
    rw [ah_step]
    constructor
    · intro h
      have h1 : p (a + n) = true := by
        cases hp : p (a + n)
        · rw [hp] at h; simp at h; omega
        · rfl
      rw [h1] at h
      simp at h
      have h2 := ih.1 (by omega)
      intro i hi1 hi2
      by_cases e : i = a + n
      · subst e; exact h1
      · exact h2 i hi1 (by omega)
    · intro h
      rw [h (a + n) (by omega) (by omega), ih.2 fun i h1 h2 => h i h1 (by omega)]
      simp; omega
theorem ah_bare (p : Nat → Bool) (a : Nat) : ∀ n, ah p (a + n) = ah p a ↔ bare p a n
  | 0 => ⟨fun _ i h1 h2 => by omega, fun _ => rfl⟩
  | n + 1 => by
    have ih := ah_bare p a n
    have bd := ah_bd p a n
    rw [ah_step]
    constructor
    · intro h
      have h1 : p (a + n) = false := by
        cases hp : p (a + n)
        · rfl
        · rw [hp] at h; simp at h; omega
      rw [h1] at h
      simp at h
      have h2 := ih.1 (by omega)
      intro i hi1 hi2
      by_cases e : i = a + n
      · subst e; exact h1
      · exact h2 i hi1 (by omega)
    · intro h
      rw [h (a + n) (by omega) (by omega), ih.2 fun i h1 h2 => h i h1 (by omega)]
      simp
/-- The document's way: f is 16 less the stem's length. -/
def tl (p : Nat → Bool) : Nat → Nat → List (Nat × Nat)
  | 0, a => if ah p (a + 1) - ah p a = 1 then [(a, 16)] else []
  | f + 1, a => if ah p (a + 2 ^ (f + 1)) - ah p a = 2 ^ (f + 1) then [(a, 15 - f)] else if ah p (a + 2 ^ (f + 1)) - ah p a = 0 then [] else tl p f a ++ tl p f (a + 2 ^ f)
theorem tl_full {p : Nat → Bool} {f a : Nat} (h : full p a (2 ^ f)) : tl p f a = [(a, 16 - f)] := by
  have e := (ah_full p a (2 ^ f)).2 h
  cases f with
  | zero => unfold tl; rw [Nat.pow_zero] at e; rw [e, if_pos (by omega)]
  | succ f => unfold tl; rw [e, if_pos (Nat.add_sub_cancel_left ..), show 16 - (f + 1) = 15 - f by omega]
theorem tl_bare {p : Nat → Bool} {f a : Nat} (h : bare p a (2 ^ f)) : tl p f a = [] := by
  have e := (ah_bare p a (2 ^ f)).2 h
  have hp : 0 < 2 ^ f := Nat.pow_pos (by decide)
  cases f with
  | zero => unfold tl; rw [Nat.pow_zero] at e; rw [e, if_neg (by omega)]
  | succ f =>
    unfold tl
    rw [e]
    generalize 2 ^ (f + 1) = z at hp
    rw [if_neg (by omega), if_pos (by omega)]
theorem tl_halves {p : Nat → Bool} {f a : Nat} (h1 : ¬ full p a (2 ^ (f + 1))) (h2 : ¬ bare p a (2 ^ (f + 1))) : tl p (f + 1) a = tl p f a ++ tl p f (a + 2 ^ f) := by
  rw [← ah_full] at h1
  rw [← ah_bare] at h2
  have bd := ah_bd p a (2 ^ (f + 1))
  have h3 : ¬ ah p (a + 2 ^ (f + 1)) - ah p a = 2 ^ (f + 1) := by omega
  have h4 : ¬ ah p (a + 2 ^ (f + 1)) - ah p a = 0 := by omega
  show (if _ then _ else if _ then _ else _) = _
  rw [if_neg h3, if_neg h4]
/-- The greatest stem that begins at a. -/
structure IsMax (p : Nat → Bool) (a f : Nat) : Prop where
  le : f ≤ 16
  dvd : 2 ^ f ∣ a
  all : full p a (2 ^ f)
  max : ¬ (f < 16 ∧ 2 ^ (f + 1) ∣ a ∧ full p a (2 ^ (f + 1)))
def TilesF (p : Nat → Bool) (b : Nat) : Nat → Nat → List (Nat × Nat) → Prop
  | 0, a, l => a = b ∧ l = []
  | n + 1, a, l => (a < b ∧ p a = false ∧ TilesF p b n (a + 1) l) ∨ ∃ f l2, l = (a, 16 - f) :: l2 ∧ IsMax p a f ∧ a + 2 ^ f ≤ b ∧ TilesF p b n (a + 2 ^ f) l2
/-- From a up to b, by steps that pass over a place outside the set or take the greatest stem: the stems that are taken. -/
def Tiles (p : Nat → Bool) (a b : Nat) (l : List (Nat × Nat)) : Prop := ∃ n, TilesF p b n a l
theorem Tiles.done {p : Nat → Bool} (b : Nat) : Tiles p b b [] := ⟨0, rfl, rfl⟩
theorem Tiles.skip {p : Nat → Bool} {a b : Nat} {l : List (Nat × Nat)} (hlt : a < b) (hp : p a = false) (h : Tiles p (a + 1) b l) : Tiles p a b l := by
  obtain ⟨n, h⟩ := h
  exact ⟨n + 1, .inl ⟨hlt, hp, h⟩⟩
theorem Tiles.take {p : Nat → Bool} {a b f : Nat} {l : List (Nat × Nat)} (hm : IsMax p a f) (hle : a + 2 ^ f ≤ b) (h : Tiles p (a + 2 ^ f) b l) : Tiles p a b ((a, 16 - f) :: l) := by
  obtain ⟨n, h⟩ := h
  exact ⟨n + 1, .inr ⟨f, l, rfl, hm, hle, h⟩⟩
theorem Tiles.inv {p : Nat → Bool} {a b : Nat} {l : List (Nat × Nat)} (h : Tiles p a b l) : (a = b ∧ l = []) ∨ (a < b ∧ p a = false ∧ Tiles p (a + 1) b l) ∨ ∃ f l2, l = (a, 16 - f) :: l2 ∧ IsMax p a f ∧ a + 2 ^ f ≤ b ∧ Tiles p (a + 2 ^ f) b l2 := by
  obtain ⟨n, h⟩ := h
  cases n with
  | zero => exact .inl h
  | succ n =>
    rcases h with ⟨h1, h2, h3⟩ | ⟨f, l2, h1, h2, h3, h4⟩
    · exact .inr (.inl ⟨h1, h2, n, h3⟩)
    · exact .inr (.inr ⟨f, l2, h1, h2, h3, n, h4⟩)
theorem Tiles.end {p : Nat → Bool} {b : Nat} {l : List (Nat × Nat)} (h : Tiles p b b l) : l = [] := by
  rcases h.inv with ⟨_, h⟩ | ⟨h, _, _⟩ | ⟨f, l2, _, hm, hle, _⟩
  · exact h
  · omega
  · have : 0 < 2 ^ f := Nat.pow_pos (by decide)
    omega
theorem Tiles.skips {p : Nat → Bool} {b : Nat} {l : List (Nat × Nat)} : ∀ (n a : Nat), bare p a n → a + n ≤ b → (Tiles p a b l ↔ Tiles p (a + n) b l)
  | 0, a, _, _ => Iff.rfl
  | n + 1, a, h, hb => by
    have ha := h a (Nat.le_refl _) (by omega)
    have ih := Tiles.skips (b := b) (l := l) n (a + 1) (fun i h1 h2 => h i (by omega) (by omega)) (by omega)
    rw [show a + (n + 1) = a + 1 + n by omega, ← ih]
    constructor
    · intro ht
      rcases ht.inv with ⟨h3, _⟩ | ⟨_, _, h3⟩ | ⟨f, l2, _, hm, hle, h4⟩
      · omega
      · exact h3
      · have hp0 : 0 < 2 ^ f := Nat.pow_pos (by decide)
        have := hm.all a (Nat.le_refl _) (by omega)
        rw [ha] at this; cases this
    · exact fun ht => .skip (by omega) ha ht
theorem pow_dvd_le {f g : Nat} (h : f ≤ g) : 2 ^ f ∣ 2 ^ g := ⟨2 ^ (g - f), by rw [← Nat.pow_add]; congr 1; omega⟩
theorem pow_le {f g : Nat} (h : f ≤ g) : 2 ^ f ≤ 2 ^ g := Nat.pow_le_pow_right (by decide) h
theorem full_le {p : Nat → Bool} {a n m : Nat} (h : full p a n) (hm : m ≤ n) : full p a m := fun i h1 h2 => h i h1 (by omega)
/-- No greater stem of the set holds the block. -/
def free (p : Nat → Bool) (f a : Nat) : Prop := f = 16 ∨ ¬ full p (a / 2 ^ (f + 1) * 2 ^ (f + 1)) (2 ^ (f + 1))
theorem Tiles.block {p : Nat → Bool} {b : Nat} : ∀ (f a : Nat) (l : List (Nat × Nat)), f ≤ 16 → 2 ^ f ∣ a → a + 2 ^ f ≤ b → free p f a → Tiles p a b l → ∃ l', l = tl p f a ++ l' ∧ Tiles p (a + 2 ^ f) b l' := by
  intro f
  induction f with
  | zero =>
    intro a l hf hd hb hfr ht
    cases hp : p a
    · have hbr : bare p a (2 ^ 0) := fun i h1 h2 => by
        have e : i = a := by rw [Nat.pow_zero] at h2; omega
        rw [e]; exact hp
      exact ⟨l, by rw [tl_bare hbr]; rfl, (Tiles.skips (2 ^ 0) a hbr hb).1 ht⟩
    · have hfl : full p a (2 ^ 0) := fun i h1 h2 => by
        have e : i = a := by rw [Nat.pow_zero] at h2; omega
        rw [e]; exact hp
      rw [tl_full hfl]
      rcases ht.inv with ⟨h2, _⟩ | ⟨_, h2, _⟩ | ⟨g, l2, hl2, hm, hle, h3⟩
      · omega
      · rw [hp] at h2; cases h2
      · have hg : g = 0 := by
          cases g with
          | zero => rfl
          | succ g =>
            exfalso
            have d1 : 2 ^ (0 + 1) ∣ a := Nat.dvd_trans (pow_dvd_le (by omega)) hm.dvd
            rcases hfr with e | e
            · cases e
            · apply e
              rw [Nat.div_mul_cancel d1]
              exact full_le hm.all (pow_le (by omega))
        subst hg
        exact ⟨l2, by rw [hl2]; rfl, h3⟩
  | succ f ih =>
    intro a l hf hd hb hfr ht
    have hpos : 0 < 2 ^ (f + 1) := Nat.pow_pos (by decide)
    have hdbl : 2 ^ (f + 1) = 2 ^ f + 2 ^ f := by rw [Nat.pow_succ]; omega
    by_cases h1 : full p a (2 ^ (f + 1))
    · rw [tl_full h1]
      rcases ht.inv with ⟨h2, _⟩ | ⟨_, h2, _⟩ | ⟨g, l2, hl2, hm, hle, h3⟩
      · omega
      · rw [h1 a (Nat.le_refl _) (by omega)] at h2; cases h2
      · have hg : g = f + 1 := by
          rcases Nat.lt_trichotomy g (f + 1) with h | h | h
          · exact absurd ⟨by omega, Nat.dvd_trans (pow_dvd_le (by omega)) hd, full_le h1 (pow_le (by omega))⟩ hm.max
          · exact h
          · exfalso
            have d1 : 2 ^ (f + 1 + 1) ∣ a := Nat.dvd_trans (pow_dvd_le (by omega)) hm.dvd
            rcases hfr with e | e
            · have := hm.le; omega
            · apply e
              rw [Nat.div_mul_cancel d1]
              exact full_le hm.all (pow_le (by omega))
        subst hg
        exact ⟨l2, by rw [hl2]; rfl, h3⟩
    · by_cases h2 : bare p a (2 ^ (f + 1))
      · exact ⟨l, by rw [tl_bare h2]; rfl, (Tiles.skips _ a h2 hb).1 ht⟩
      · rw [tl_halves h1 h2]
        have hdf : 2 ^ f ∣ a := Nat.dvd_trans (pow_dvd_le (by omega)) hd
        obtain ⟨l1, e1, t1⟩ := ih a l (by omega) hdf (by omega) (.inr (by rw [Nat.div_mul_cancel hd]; exact h1)) ht
        have e3 : (a + 2 ^ f) / 2 ^ (f + 1) * 2 ^ (f + 1) = a := by
          obtain ⟨q, rfl⟩ := hd
          have hp2 : 0 < 2 ^ f := Nat.pow_pos (by decide)
          rw [Nat.mul_add_div hpos, Nat.div_eq_of_lt (by omega), Nat.add_zero, Nat.mul_comm]
        obtain ⟨l2, e2, t2⟩ := ih (a + 2 ^ f) l1 (by omega) (Nat.dvd_add hdf (Nat.dvd_refl _)) (by omega) (.inr (by rw [e3]; exact h1)) t1
        refine ⟨l2, by rw [e1, e2, List.append_assoc], ?_⟩
        rw [show a + 2 ^ (f + 1) = a + 2 ^ f + 2 ^ f by omega]
        exact t2
/-- Whoever goes up and takes the greatest one each time tells the document's list. -/
theorem Tiles.is {p : Nat → Bool} {l : List (Nat × Nat)} (h : Tiles p 0 65536 l) : l = tl p 16 0 := by
  obtain ⟨l', e, t⟩ := Tiles.block 16 0 l (Nat.le_refl _) (Nat.dvd_zero _) (by decide) (.inl rfl) h
  have := Tiles.end (b := 65536) (l := l') t
  rw [e, this, List.append_nil]
end Go.Proofs.Ytcjpjofoddpfhaa.Xp
