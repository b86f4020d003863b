/-
  What comes of an iterator over bytes: rising, each held by the mask; powers of two. No program is named here.
-/
import Derived.Test.YtphfjhkbbodfaabMkRab
namespace Go.Proofs.Ytphfjhkbbodfaab
open Go.RowKit
set_option linter.unusedVariables false

theorem pow_and : ∀ k, k ≤ 8 → bits .and .i64 ((2 ^ k : Nat) : Int) (((2 ^ k : Nat) : Int) - 1) = 0 := by decide +kernel
/-- Rising above lo, each held. -/
def goodF (v c : Nat) : Int → List Byx → Bool
  | _, [] => true
  | lo, x :: l => (decide (lo < (x.1 : Int)) && hasM v c x.1) && goodF v c (x.1 : Int) l
def lastF : Int → List Byx → Int
  | lo, [] => lo
  | _, x :: l => lastF (x.1 : Int) l
theorem goodF_append (v c : Nat) : ∀ (l k : List Byx) (lo : Int), goodF v c lo (l ++ k) = (goodF v c lo l && goodF v c (lastF lo l) k)
  | [], k, lo => rfl
  | x :: l, k, lo => by
    show ((decide (lo < (x.1 : Int)) && hasM v c x.1) && goodF v c (x.1 : Int) (l ++ k)) = _
    rw [goodF_append v c l k (x.1 : Int), ← Bool.and_assoc]
    rfl
theorem lastF_append : ∀ (l k : List Byx) (lo : Int), lastF lo (l ++ k) = lastF (lastF lo l) k
  | [], k, lo => rfl
  | x :: l, k, lo => lastF_append l k (x.1 : Int)
theorem goodF_snoc (v c : Nat) (l : List Byx) (x : Byx) : goodF v c (-1) (l ++ [x]) = (goodF v c (-1) l && (decide (lastF (-1) l < (x.1 : Int)) && hasM v c x.1)) := by
  rw [goodF_append]
  show (goodF v c (-1) l && ((decide (lastF (-1) l < (x.1 : Int)) && hasM v c x.1) && true)) = _
  rw [Bool.and_true]
theorem lastF_snoc (l : List Byx) (x : Byx) : lastF (-1) (l ++ [x]) = (x.1 : Int) := by rw [lastF_append]; rfl
theorem allX_good (v c : Nat) : ∀ n, n ≤ 256 → goodF v c (-1) (allX v c n) = true ∧ lastF (-1) (allX v c n) < (n : Int)
  | 0, _ => ⟨rfl, show (-1 : Int) < ((0 : Nat) : Int) by decide⟩
  | n + 1, h => by
    obtain ⟨i1, i2⟩ := allX_good v c n (by omega)
    cases hh : hasM v c n
    · rw [allX_miss hh]; exact ⟨i1, by omega⟩
    · rw [allX_hit hh, goodF_snoc, lastF_snoc, i1]
      have e : (byx n).1 = n := Nat.mod_eq_of_lt (by omega)
      rw [e, hh, decide_eq_true i2]
      exact ⟨rfl, by omega⟩
theorem pre_good {v c : Nat} {l : List Byx} (h : l <+: allX v c 256) : goodF v c (-1) l = true := by
  obtain ⟨t, ht⟩ := h
  have := (allX_good v c 256 (Nat.le_refl _)).1
  rw [← ht, goodF_append, Bool.and_eq_true] at this
  exact this.1
theorem lastF_bd : ∀ (l : List Byx) (lo : Int), -1 ≤ lo → lo < 256 → -1 ≤ lastF lo l ∧ lastF lo l < 256
  | [], lo, h1, h2 => ⟨h1, h2⟩
  | x :: l, lo, _, _ => lastF_bd l (x.1 : Int) (by omega) (by have := x.2; omega)
end Go.Proofs.Ytphfjhkbbodfaab
