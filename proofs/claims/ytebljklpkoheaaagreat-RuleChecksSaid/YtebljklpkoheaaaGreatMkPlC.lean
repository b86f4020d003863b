/-
  Plain arithmetic on bytes: what the two loops of Less do at a bit. No program is named here.
-/
import Derived.Test.YtebljklpkoheaaaGreatMkPlB
namespace Go.Proofs.YtebljklpkoheaaaGreat
open Go.RowKit
set_option linter.unusedVariables false

/-- The byte that the loop runs down with. -/
def bz (k : Nat) : Nat := 128 / 2 ^ k
theorem bz_half (k : Nat) : bz k / 2 = bz (k + 1) := by unfold bz; rw [Nat.div_div_eq_div_mul, ← Nat.pow_succ]
theorem bz_two : ∀ k, k < 8 → bz k = 2 ^ (7 - k) := by decide
theorem bz_lt (k : Nat) : bz k < 256 := by
  have : bz k ≤ 128 := Nat.div_le_self _ _
  omega
theorem bz_pos (k : Nat) (h : k < 8) : 0 < bz k := by rw [bz_two k h]; exact Nat.pow_pos (by decide)
theorem bz_test {k : Nat} (h : k < 8) (j : Nat) : (bz k).testBit j = decide (7 - k = j) := by rw [bz_two k h, Nat.testBit_two_pow]
theorem cut_bz {c d k : Nat} (h : k < 8) (hc : c < 256) : (bz k &&& d) &&& (255 - c) = 0 ↔ cut c d k = false := by
  constructor
  · intro e
    have := congrArg (fun y => Nat.testBit y (7 - k)) e
    simp only [Nat.testBit_and, bz_test h, not8 hc, Nat.zero_testBit, decide_true, Bool.true_and, decide_eq_true (show 7 - k < 8 by omega)] at this
    cases hk : cut c d k
    · rfl
    · rw [cut_iff] at hk
      rw [hk.1, hk.2] at this; cases this
  · intro e
    apply Nat.eq_of_testBit_eq
    intro j
    simp only [Nat.testBit_and, bz_test h, not8 hc, Nat.zero_testBit]
    by_cases hj : 7 - k = j
    · subst hj
      cases hd : d.testBit (7 - k)
      · simp
      · cases hcc : c.testBit (7 - k)
        · rw [(cut_iff c d k).2 ⟨hd, hcc⟩] at e; cases e
        · simp
    · simp [hj]
theorem or_bz {c d k : Nat} (h : k < 8) (hk : cut c d k = true) : rv c d k ||| bz k = rv c d (k + 1) := by
  rw [cut_iff] at hk
  rw [rv_set h hk.1, bz_two k h]
theorem piece_bz {v c x d k : Nat} (h : k < 8) (hx : x < 256) : rv v x k ||| (bz k &&& (255 - x)) = (piece v c x d k).1 := by
  show _ = rv v x k ||| (1 - tb x k) * 2 ^ (7 - k)
  congr 1
  apply Nat.eq_of_testBit_eq
  intro j
  rw [Nat.testBit_and, bz_test h, not8 hx]
  have hl := tb_lt x k
  obtain e | e : tb x k = 0 ∨ tb x k = 1 := by omega
  · rw [e, Nat.sub_zero, Nat.one_mul, Nat.testBit_two_pow]
    rw [tb_zero] at e
    by_cases hj : 7 - k = j
    · subst hj; rw [e, decide_eq_true (show 7 - k < 8 by omega)]; simp
    · simp [hj]
  · rw [e, Nat.sub_self, Nat.zero_mul, Nat.zero_testBit]
    rw [tb_one] at e
    by_cases hj : 7 - k = j
    · subst hj; rw [e]; simp
    · simp [hj]
theorem orv_bz {v x k : Nat} (h : k < 8) : rv v x k ||| (bz k &&& x) = rv v x (k + 1) := by
  apply Nat.eq_of_testBit_eq
  intro j
  rw [rv_succ_test _ _ _ _ h, Nat.testBit_or, Nat.testBit_and, bz_test h]
  by_cases hj : 7 - k = j
  · subst hj; rfl
  · simp [hj]
theorem rc_stay {c d k : Nat} (h : k < 8) (hk : cut c d k = false) : rv c d (k + 1) = rv c d k := by
  refine rv_stay h fun hd => ?_
  cases hc : c.testBit (7 - k)
  · rw [(cut_iff c d k).2 ⟨hd, hc⟩] at hk; cases hk
  · rfl
theorem rv_stay' {v c x d k : Nat} (h : k < 8) (h1 : okM v c = true) (h2 : okM x d = true) (ha : apM v c x d = false) (hk : cut c d k = false) : rv v x (k + 1) = rv v x k := by
  refine rv_stay h fun hx => ?_
  have hd := (okM_iff x d).1 h2 _ hx
  cases hc : c.testBit (7 - k)
  · rw [(cut_iff c d k).2 ⟨hd, hc⟩] at hk; cases hk
  · rw [(apM_iff v c x d).1 ha _ hc hd, hx]
theorem lessN_hit {v c x d k : Nat} (hk : cut c d k = true) : lessN v c x d (k + 1) = lessN v c x d k ++ [piece v c x d k] := by
  show (if cut c d k = true then _ else _) = _
  rw [if_pos hk]
theorem lessN_miss {v c x d k : Nat} (hk : cut c d k = false) : lessN v c x d (k + 1) = lessN v c x d k := by
  show (if cut c d k = true then _ else _) = _
  rw [hk]; rfl
/-- The document's way: a bit that is not there is added. -/
theorem rc_add {c d k : Nat} (h : k < 8) (hc : c < 256) (hd : d < 256) (hk : cut c d k = true) : ((rv c d k : Nat) : Int) + 2 ^ (7 - k) = ((rv c d (k + 1) : Nat) : Int) ∧ ((rv c d k : Nat) : Int) + 2 ^ (7 - k) < 256 := by
  have hk' := (cut_iff c d k).1 hk
  have e := add_bit' (rv_lt hc hd k) h (rv_clear h hk'.2)
  rw [← rv_set h hk'.1] at e
  have l := rv_lt hc hd (k + 1)
  have e2 : (2 : Int) ^ (7 - k) = ((2 ^ (7 - k) : Nat) : Int) := by simp
  rw [e2]
  generalize 2 ^ (7 - k) = z at e
  omega
theorem cut_tb {c d k : Nat} : cut c d k = true ↔ (tb c k = 0 ∧ tb d k = 1) := by unfold cut; rw [decide_eq_true_eq]; exact ⟨fun h => ⟨h.2, h.1⟩, fun h => ⟨h.2, h.1⟩⟩
theorem cut_clear {v c d k : Nat} (h1 : okM v c = true) (hk : cut c d k = true) : v.testBit (7 - k) = false := by
  have hk' := (cut_iff c d k).1 hk
  cases hv : v.testBit (7 - k)
  · rfl
  · rw [(okM_iff v c).1 h1 _ hv] at hk'; cases hk'.2
/-- b has a 0 there: the piece has a 1, what is left over stays. -/
theorem piece_zero {v c x d k : Nat} (h : k < 8) (hv : v < 256) (hx : x < 256) (h1 : okM v c = true) (hk : cut c d k = true) (ht : tb x k = 0) :
    ((rv v x k : Nat) : Int) + 2 ^ (7 - k) = (((piece v c x d k).1 : Nat) : Int) ∧ ((rv v x k : Nat) : Int) + 2 ^ (7 - k) < 256 ∧ rv v x (k + 1) = rv v x k := by
  have e := add_bit' (rv_lt hv hx k) h (rv_clear h (cut_clear h1 hk))
  have e3 : (piece v c x d k).1 = rv v x k ||| 2 ^ (7 - k) := by show rv v x k ||| (1 - tb x k) * 2 ^ (7 - k) = _; rw [ht, Nat.sub_zero, Nat.one_mul]
  have l : rv v x k ||| 2 ^ (7 - k) < 256 := or_lt (rv_lt hv hx k) (two_lt _ (by omega))
  have e2 : (2 : Int) ^ (7 - k) = ((2 ^ (7 - k) : Nat) : Int) := by simp
  refine ⟨?_, ?_, rv_stay h fun hh => by rw [tb_zero] at ht; rw [ht] at hh; cases hh⟩
  · rw [e2, e3, ← e]; simp
  · rw [e2]; generalize 2 ^ (7 - k) = z at e l; omega
theorem piece_one {v c x d k : Nat} (h : k < 8) (hv : v < 256) (hx : x < 256) (h1 : okM v c = true) (hk : cut c d k = true) (ht : tb x k = 1) :
    ((rv v x k : Nat) : Int) + 2 ^ (7 - k) = ((rv v x (k + 1) : Nat) : Int) ∧ ((rv v x k : Nat) : Int) + 2 ^ (7 - k) < 256 ∧ (piece v c x d k).1 = rv v x k := by
  have e := add_bit' (rv_lt hv hx k) h (rv_clear h (cut_clear h1 hk))
  rw [← rv_set h ((tb_one x k).1 ht)] at e
  have l := rv_lt hv hx (k + 1)
  have e2 : (2 : Int) ^ (7 - k) = ((2 ^ (7 - k) : Nat) : Int) := by simp
  refine ⟨?_, ?_, ?_⟩
  · rw [e2]; generalize 2 ^ (7 - k) = z at e; omega
  · rw [e2]; generalize 2 ^ (7 - k) = z at e; omega
  · show rv v x k ||| (1 - tb x k) * 2 ^ (7 - k) = _; rw [ht, Nat.sub_self, Nat.zero_mul, Nat.or_zero]
end Go.Proofs.YtebljklpkoheaaaGreat
