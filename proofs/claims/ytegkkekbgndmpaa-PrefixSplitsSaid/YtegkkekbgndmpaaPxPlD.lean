/-
  Plain arithmetic on the pieces of one prefix less another: they rise, lie in the one and apart from the other, hold each address that they should once, and are at most 32. No program is named here.
-/
import Derived.Test.YtegkkekbgndmpaaPxPlC
import Derived.Test.YtegkkekbgndmpaaPxU
namespace Go.Proofs.Ytegkkekbgndmpaa
open Go.RowKit
set_option linter.unusedVariables false
set_option linter.unusedSimpArgs false

/-- The address lies in the run. -/
def inB (x a n : Nat) : Bool := decide (a ≤ x ∧ x ≤ hi a n)
theorem has_in (a n x : Nat) (hn : n ≤ 32) (h0 : a % bk n = 0) : hasB a n x = inB x a n := by
  rw [hasB_in (chk_in a n hn h0)]
  unfold inB hi
  rw [decide_eq_decide]
  have p := bk_pos n
  constructor
  · intro e
    have h1 := ct_add x n
    have h2 := Nat.mod_lt x p
    omega
  · rintro ⟨h1, h2⟩
    obtain ⟨c, rfl⟩ := Nat.dvd_of_mod_eq_zero h0
    unfold ct
    have : x / bk n = c := by
      apply Nat.div_eq_of_lt_le
      · rw [Nat.mul_comm]; exact h1
      · rw [Nat.add_mul, Nat.mul_comm c]; omega
    rw [this, Nat.mul_comm]
/-- What is promised of a list of pieces. -/
structure Pieces (L : List (Nat × Nat)) (a n b m x : Nat) : Prop where
  ok : ∀ p ∈ L, p.2 ≤ 32 ∧ p.1 % bk p.2 = 0 ∧ a ≤ p.1 ∧ hi p.1 p.2 ≤ hi a n ∧ (hi p.1 p.2 < b ∨ hi b m < p.1)
  up : L.Pairwise fun p q => hi p.1 p.2 < q.1
  one : (L.filter fun p => inB x p.1 p.2).length = if inB x a n && !inB x b m then 1 else 0
theorem hi_half (a n : Nat) (hn : n < 32) : hi a (n + 1) = a + bk (n + 1) - 1 ∧ hi (a + bk (n + 1)) (n + 1) = hi a n := by
  unfold hi
  have h1 := bk_succ n hn
  have h2 := bk_pos (n + 1)
  omega
/-- What lies in a prefix and is longer lies in one of its halves, and apart from the other. -/
theorem half_of (a n b m : Nat) (hn : n < 32) (hm : m ≤ 32) (hnm : n < m) (h0 : a % bk n = 0) (ha : a < 4294967296) (k0 : b % bk m = 0) (w2 : witB b m a n = true) :
    (witB b m a (n + 1 : Nat) = true ∧ hi b m < a + bk (n + 1)) ∨ (witB b m (a + bk (n + 1)) (n + 1 : Nat) = true ∧ hi a (n + 1) < b) := by
  have hw := (wit_runs b m a n hm (by omega) k0 h0).1 w2
  have hh := hi_half a n hn
  have lo := half_lo a n h0
  have hi' := (half_hi a n hn ha h0).2
  have h3 := le_hi b m
  have h2 := bk_pos (n + 1)
  by_cases h : witB b m a (n + 1 : Nat) = true
  · have := (wit_runs b m a (n + 1) hm (by omega) k0 lo).1 h
    exact .inl ⟨h, by omega⟩
  · rcases apart_of b m a (n + 1) hm (by omega) k0 lo (by omega) h with k | k
    · omega
    · right
      refine ⟨?_, k⟩
      rcases Bool.eq_false_or_eq_true (witB b m (a + bk (n + 1)) (n + 1 : Nat)) with e | e
      · exact e
      · rcases apart_of b m (a + bk (n + 1)) (n + 1) hm (by omega) k0 hi' (by omega) (by rw [e]; exact Bool.false_ne_true) with k2 | k2 <;> omega
theorem pieces_of : ∀ (f a n b m x : Nat), f = 32 - n → n ≤ 32 → m ≤ 32 → a < 4294967296 → a % bk n = 0 → b % bk m = 0 → Pieces (lessF f a n b m) a n b m x
  | f, a, n, b, m, x, hf, hn, hm, ha, h0, k0 => by
    have r1 := wit_runs a n b m hn hm h0 k0
    have r2 := wit_runs b m a n hm hn k0 h0
    by_cases k1 : witB a n b m = true
    · rw [show lessF f a n b m = [] by cases f <;> simp [lessF, k1]]
      refine ⟨(fun p hp => absurd hp (by simp)), List.Pairwise.nil, ?_⟩
      have := r1.1 k1
      have e : (inB x a n && !inB x b m) = false := by
        rw [Bool.and_eq_false_iff]
        by_cases hx : a ≤ x ∧ x ≤ hi a n
        · right; simp only [inB, Bool.not_eq_false', decide_eq_true_eq]; omega
        · left; simp only [inB, decide_eq_false_iff_not]; exact hx
      rw [e]; rfl
    · have k1' : witB a n b m = false := by simpa using k1
      by_cases k2 : witB b m a n = true
      · match f, hf with
        | 0, hf => exact absurd (wit_32 a n b m (by omega) (chk_in a n hn h0) (chk_in b m hm k0) k2) k1
        | f + 1, hf =>
          have hn' : n < 32 := by omega
          rw [show lessF (f + 1) a n b m = lessF f a (n + 1) b m ++ lessF f (a + bk (n + 1)) (n + 1) b m by simp [lessF, k1', k2]]
          have lo := half_lo a n h0
          have hi' := half_hi a n hn' ha h0
          have P1 := pieces_of f a (n + 1) b m x (by omega) (by omega) hm ha lo k0
          have P2 := pieces_of f (a + bk (n + 1)) (n + 1) b m x (by omega) (by omega) hm hi'.1 hi'.2 k0
          have hh := hi_half a n hn'
          have hp := bk_pos (n + 1)
          have hl := le_hi a n
          have hs := bk_succ n hn'
          have hd : hi a n = a + (bk n - 1) := rfl
          refine ⟨fun p hp' => ?_, ?_, ?_⟩
          · rcases List.mem_append.1 hp' with h | h
            · have := P1.ok p h; exact ⟨this.1, this.2.1, this.2.2.1, by omega, this.2.2.2.2⟩
            · have := P2.ok p h; exact ⟨this.1, this.2.1, by omega, by omega, this.2.2.2.2⟩
          · rw [List.pairwise_append]
            refine ⟨P1.up, P2.up, fun p h q h' => ?_⟩
            have h1 := P1.ok p h
            have h2 := P2.ok q h'
            omega
          · rw [List.filter_append, List.length_append, P1.one, P2.one]
            have w1 : inB x a (n + 1) = decide (a ≤ x ∧ x < a + bk (n + 1)) := by unfold inB; rw [decide_eq_decide]; omega
            have w2' : inB x (a + bk (n + 1)) (n + 1) = decide (a + bk (n + 1) ≤ x ∧ x ≤ hi a n) := by unfold inB; rw [decide_eq_decide]; omega
            rw [w1, w2']
            cases hb : inB x b m with
            | true => simp
            | false =>
              simp only [Bool.not_false, Bool.and_true]
              unfold inB
              by_cases c1 : a ≤ x ∧ x < a + bk (n + 1)
              · rw [decide_eq_true c1, decide_eq_false (by omega), decide_eq_true (by omega)]; rfl
              · rw [decide_eq_false c1]
                by_cases c2 : a + bk (n + 1) ≤ x ∧ x ≤ hi a n
                · rw [decide_eq_true c2, decide_eq_true (by omega)]; rfl
                · rw [decide_eq_false c2, decide_eq_false (by omega)]; rfl
      · have k2' : witB b m a n = false := by simpa using k2
        rw [show lessF f a n b m = [(a, n)] by cases f <;> simp [lessF, k1', k2']]
        have hap := wit_apart a n b m hn hm h0 k0 k1' k2'
        refine ⟨fun p hp => ?_, List.pairwise_singleton _ _, ?_⟩
        · rw [List.mem_singleton] at hp; subst hp; exact ⟨hn, h0, Nat.le_refl _, Nat.le_refl _, hap⟩
        · cases ha' : inB x a n with
          | false => simp [ha']
          | true =>
            have hb' : inB x b m = false := by
              unfold inB at *
              have := of_decide_eq_true ha'
              exact decide_eq_false (by omega)
            simp [ha', hb']
theorem pieces_len : ∀ (f a n b m : Nat), f = 32 - n → n ≤ 32 → m ≤ 32 → a < 4294967296 → a % bk n = 0 → b % bk m = 0 →
    (witB b m a n = true → (lessF f a n b m).length ≤ 32 - n) ∧ (witB b m a n = false → (lessF f a n b m).length ≤ 1)
  | f, a, n, b, m, hf, hn, hm, ha, h0, k0 => by
    by_cases k1 : witB a n b m = true
    · rw [show lessF f a n b m = [] by cases f <;> simp [lessF, k1]]
      simp
    · have k1' : witB a n b m = false := by simpa using k1
      refine ⟨fun k2 => ?_, fun k2 => ?_⟩
      · have hnm : n < m := by
          have h1 := (wit_iff b m a n hm hn k0 h0).1 k2
          rcases Nat.lt_or_ge n m with h | h
          · exact h
          · obtain rfl : n = m := by omega
            exact absurd ((wit_iff a n b n hn hn h0 k0).2 ⟨Nat.le_refl _, by rw [ct_self a n h0, ← h1.2, ct_self b n k0]⟩) k1
        match f, hf with
        | 0, hf => omega
        | f + 1, hf =>
          have hn' : n < 32 := by omega
          rw [show lessF (f + 1) a n b m = lessF f a (n + 1) b m ++ lessF f (a + bk (n + 1)) (n + 1) b m by simp [lessF, k1', k2], List.length_append]
          have lo := half_lo a n h0
          have hi' := half_hi a n hn' ha h0
          have P1 := pieces_len f a (n + 1) b m (by omega) (by omega) hm ha lo k0
          have P2 := pieces_len f (a + bk (n + 1)) (n + 1) b m (by omega) (by omega) hm hi'.1 hi'.2 k0
          have hh := hi_half a n hn'
          have l1 := le_hi b m
          rcases half_of a n b m hn' hm hnm h0 ha k0 k2 with ⟨e1, e2⟩ | ⟨e1, e2⟩
          · have e3 : witB b m (a + bk (n + 1)) (n + 1 : Nat) = false := by
              rcases Bool.eq_false_or_eq_true (witB b m (a + bk (n + 1)) (n + 1 : Nat)) with e | e
              · have := (wit_runs b m (a + bk (n + 1)) (n + 1) hm (by omega) k0 hi'.2).1 e; omega
              · exact e
            have q1 := P1.1 e1
            have q2 := P2.2 e3
            omega
          · have e3 : witB b m a (n + 1 : Nat) = false := by
              rcases Bool.eq_false_or_eq_true (witB b m a (n + 1 : Nat)) with e | e
              · have := (wit_runs b m a (n + 1) hm (by omega) k0 lo).1 e; omega
              · exact e
            have q1 := P1.2 e3
            have q2 := P2.1 e1
            omega
      · rw [show lessF f a n b m = [(a, n)] by cases f <;> simp [lessF, k1', k2]]
        simp
end Go.Proofs.Ytegkkekbgndmpaa
