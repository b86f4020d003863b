/-
  Headers in the order of their bytes; the first bit in which two differ. No program is named here.
-/
import Derived.Test.YtpgadbiohmofeabHdPlS
namespace Go.Proofs.Ytpgadbiohmofeab
set_option linter.unusedVariables false

theorem lexC_stays {x y : List Nat} {k : Nat} (h : lexC x y k ≠ 0) : ∀ m, lexC x y (k + m) = lexC x y k
  | 0 => rfl
  | m + 1 => by
    have ih := lexC_stays h m
    show (if lexC x y (k + m) ≠ 0 then lexC x y (k + m) else _) = _
    rw [ih, if_pos h]
theorem lexC_13 {a b : Hd} (oa : OkH a) (ob : OkH b) {k : Nat} (hk : k ≤ 13) (h : k = 13 ∨ lexC (bytesH a) (bytesH b) k ≠ 0) : lexC (bytesH a) (bytesH b) k = cmpH a b := by
  rw [← lexC_cmp oa ob]
  rcases h with rfl | h
  · rfl
  · have := lexC_stays h (13 - k)
    rw [show k + (13 - k) = 13 by omega] at this
    exact this.symm
theorem cmp_bit0 {a b : Hd} (oa : OkH a) (ob : OkH b) {k : Nat} (hk : k < 104) (hs : ∀ j, j < k → bitH a j = bitH b j) (h0 : bitH a k = 0) (h1 : bitH b k = 1) : cmpH a b = -1 := cmp_neg.2 (bits_lt oa ob hk hs h0 h1)
theorem cmp_bit1 {a b : Hd} (oa : OkH a) (ob : OkH b) {k : Nat} (hk : k < 104) (hs : ∀ j, j < k → bitH a j = bitH b j) (h0 : bitH a k = 1) (h1 : bitH b k = 0) : cmpH a b = 1 := by
  rw [cmp_swap, cmp_bit0 ob oa hk (fun j hj => (hs j hj).symm) h1 h0]; rfl
theorem dif_turn_a {a : Hd} {k : Nat} (hk : k < 104) : difH (turnH a k) a = (k : Int) := by
  refine difH_uniq hk ?_ ?_
  · rw [turn_bit hk, if_pos rfl]
    have := bitH_lt a k
    omega
  · intro j hj
    rw [turn_bit hk, if_neg (by omega)]
theorem dif_turn_b {a b : Hd} (ob : OkH b) {k : Nat} (hk : k < 104) (hn : bitH a k ≠ bitH b k) : difH (turnH a k) b ≠ (k : Int) := by
  intro hc
  rcases difH_is (ok_turn (h := a) k) ob with ⟨h1, _⟩ | ⟨m, h1, h2, h3, _⟩
  · rw [h1] at hc; omega
  · have : m = k := by rw [h1] at hc; omega
    subst this
    rw [turn_bit hk, if_pos rfl] at h3
    have := bitH_lt a m
    have := bitH_lt b m
    omega
theorem first_field {a b : Hd} (h : a ≠ b) : a.s ≠ b.s ∨ (a.s = b.s ∧ a.d ≠ b.d) ∨ (a.s = b.s ∧ a.d = b.d ∧ a.p ≠ b.p) ∨ (a.s = b.s ∧ a.d = b.d ∧ a.p = b.p ∧ a.q ≠ b.q) ∨ (a.s = b.s ∧ a.d = b.d ∧ a.p = b.p ∧ a.q = b.q ∧ a.r ≠ b.r) := by
  by_cases h1 : a.s = b.s
  · by_cases h2 : a.d = b.d
    · by_cases h3 : a.p = b.p
      · by_cases h4 : a.q = b.q
        · exact .inr (.inr (.inr (.inr ⟨h1, h2, h3, h4, fun h5 => h (hd_ext h1 h2 h3 h4 h5)⟩)))
        · exact .inr (.inr (.inr (.inl ⟨h1, h2, h3, h4⟩)))
      · exact .inr (.inr (.inl ⟨h1, h2, h3⟩))
    · exact .inr (.inl ⟨h1, h2⟩)
  · exact .inl h1
end Go.Proofs.Ytpgadbiohmofeab
