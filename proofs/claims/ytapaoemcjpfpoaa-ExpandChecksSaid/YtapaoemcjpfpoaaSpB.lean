/-
  Meet, Within, Compare of package span and of the document's answer.
-/
import Derived.Test.YtapaoemcjpfpoaaSpA
import Derived.Sort.Grow
namespace Go.Proofs.Ytapaoemcjpfpoaa
open Go.RowKit
set_option linter.unusedVariables false
set_option linter.unusedSimpArgs false

theorem bel_grow (w : World) (os : Array Obj) : Below w.heap.size w (Sort.grow w os) := by
  refine ⟨rfl, rfl, rfl, ?_, fun k hk => ?_⟩
  · simp [Sort.grow]
  · simp [Sort.grow, Array.getElem?_append, hk]
def cmpI (x y : Nat × Nat) : Int := if x = y then 0 else if x.1 < y.1 ∨ (x.1 = y.1 ∧ x.2 < y.2) then -1 else 1

theorem meet_yes (a b c d : Nat) (w : World) (h : max a c ≤ min b d) :
    Calls Try.prog 31 #[.agg #[.int .u16 a, .int .u16 b], .agg #[.int .u16 c, .int .u16 d]] w fun e w' => e = .returned (.tuple #[.agg #[.int .u16 (max a c : Nat), .int .u16 (min b d : Nat)], .bool true]) ∧ Below w.heap.size w w' := by
  by_cases h1 : a < c
  · rw [show max a c = c by omega] at h ⊢
    by_cases h2 : d < b
    · rw [show min b d = d by omega] at h ⊢
      have h3 : ¬ (d < c) := by omega
      clear h
      go_enter Try.func31, Try.ntmps31
      go_wp2
      exact bodyPost_ret (v := .tuple #[.agg #[.int .u16 c, .int .u16 d], .bool true]) (by simp [results, Try.results31, go_sem]) rfl ⟨rfl, by (repeat (first | assumption | exact Below.refl _ _ | refine Below.drew ?_ | refine bel_drewN ?_ _ | refine Below.setCell ?_ (by first | omega | (simp; done) | (simp; omega)) _ | refine Below.alloc ?_ (by first | omega | (simp; done) | (simp; omega)) _ | refine bel_of ?_ (by assumption)))⟩
    · rw [show min b d = b by omega] at h ⊢
      have h3 : ¬ (b < c) := by omega
      clear h
      go_enter Try.func31, Try.ntmps31
      go_wp2
      exact bodyPost_ret (v := .tuple #[.agg #[.int .u16 c, .int .u16 b], .bool true]) (by simp [results, Try.results31, go_sem]) rfl ⟨rfl, by (repeat (first | assumption | exact Below.refl _ _ | refine Below.drew ?_ | refine bel_drewN ?_ _ | refine Below.setCell ?_ (by first | omega | (simp; done) | (simp; omega)) _ | refine Below.alloc ?_ (by first | omega | (simp; done) | (simp; omega)) _ | refine bel_of ?_ (by assumption)))⟩
  · rw [show max a c = a by omega] at h ⊢
    by_cases h2 : d < b
    · rw [show min b d = d by omega] at h ⊢
      have h3 : ¬ (d < a) := by omega
      clear h
      go_enter Try.func31, Try.ntmps31
      go_wp2
      exact bodyPost_ret (v := .tuple #[.agg #[.int .u16 a, .int .u16 d], .bool true]) (by simp [results, Try.results31, go_sem]) rfl ⟨rfl, by (repeat (first | assumption | exact Below.refl _ _ | refine Below.drew ?_ | refine bel_drewN ?_ _ | refine Below.setCell ?_ (by first | omega | (simp; done) | (simp; omega)) _ | refine Below.alloc ?_ (by first | omega | (simp; done) | (simp; omega)) _ | refine bel_of ?_ (by assumption)))⟩
    · rw [show min b d = b by omega] at h ⊢
      have h3 : ¬ (b < a) := by omega
      clear h
      go_enter Try.func31, Try.ntmps31
      go_wp2
      exact bodyPost_ret (v := .tuple #[.agg #[.int .u16 a, .int .u16 b], .bool true]) (by simp [results, Try.results31, go_sem]) rfl ⟨rfl, by (repeat (first | assumption | exact Below.refl _ _ | refine Below.drew ?_ | refine bel_drewN ?_ _ | refine Below.setCell ?_ (by first | omega | (simp; done) | (simp; omega)) _ | refine Below.alloc ?_ (by first | omega | (simp; done) | (simp; omega)) _ | refine bel_of ?_ (by assumption)))⟩
theorem meet_no (a b c d : Nat) (w : World) (h : ¬ max a c ≤ min b d) :
    Calls Try.prog 31 #[.agg #[.int .u16 a, .int .u16 b], .agg #[.int .u16 c, .int .u16 d]] w fun e w' => e = .returned (.tuple #[.agg #[.int .u16 0, .int .u16 0], .bool false]) ∧ Below w.heap.size w w' := by
  by_cases h1 : a < c
  · rw [show max a c = c by omega] at h
    by_cases h2 : d < b
    · rw [show min b d = d by omega] at h
      have h3 : d < c := by omega
      clear h
      go_enter Try.func31, Try.ntmps31
      go_wp2
      exact bodyPost_ret (v := .tuple #[.agg #[.int .u16 0, .int .u16 0], .bool false]) (by simp [results, Try.results31, go_sem]) rfl ⟨rfl, by (repeat (first | assumption | exact Below.refl _ _ | refine Below.drew ?_ | refine bel_drewN ?_ _ | refine Below.setCell ?_ (by first | omega | (simp; done) | (simp; omega)) _ | refine Below.alloc ?_ (by first | omega | (simp; done) | (simp; omega)) _ | refine bel_of ?_ (by assumption)))⟩
    · rw [show min b d = b by omega] at h
      have h3 : b < c := by omega
      clear h
      go_enter Try.func31, Try.ntmps31
      go_wp2
      exact bodyPost_ret (v := .tuple #[.agg #[.int .u16 0, .int .u16 0], .bool false]) (by simp [results, Try.results31, go_sem]) rfl ⟨rfl, by (repeat (first | assumption | exact Below.refl _ _ | refine Below.drew ?_ | refine bel_drewN ?_ _ | refine Below.setCell ?_ (by first | omega | (simp; done) | (simp; omega)) _ | refine Below.alloc ?_ (by first | omega | (simp; done) | (simp; omega)) _ | refine bel_of ?_ (by assumption)))⟩
  · rw [show max a c = a by omega] at h
    by_cases h2 : d < b
    · rw [show min b d = d by omega] at h
      have h3 : d < a := by omega
      clear h
      go_enter Try.func31, Try.ntmps31
      go_wp2
      exact bodyPost_ret (v := .tuple #[.agg #[.int .u16 0, .int .u16 0], .bool false]) (by simp [results, Try.results31, go_sem]) rfl ⟨rfl, by (repeat (first | assumption | exact Below.refl _ _ | refine Below.drew ?_ | refine bel_drewN ?_ _ | refine Below.setCell ?_ (by first | omega | (simp; done) | (simp; omega)) _ | refine Below.alloc ?_ (by first | omega | (simp; done) | (simp; omega)) _ | refine bel_of ?_ (by assumption)))⟩
    · rw [show min b d = b by omega] at h
      have h3 : b < a := by omega
      clear h
      go_enter Try.func31, Try.ntmps31
      go_wp2
      exact bodyPost_ret (v := .tuple #[.agg #[.int .u16 0, .int .u16 0], .bool false]) (by simp [results, Try.results31, go_sem]) rfl ⟨rfl, by (repeat (first | assumption | exact Below.refl _ _ | refine Below.drew ?_ | refine bel_drewN ?_ _ | refine Below.setCell ?_ (by first | omega | (simp; done) | (simp; omega)) _ | refine Below.alloc ?_ (by first | omega | (simp; done) | (simp; omega)) _ | refine bel_of ?_ (by assumption)))⟩
theorem cmpS (x y : Nat × Nat) (w : World) :
    Calls Try.prog 50 #[.agg #[.int .u16 (x.1), .int .u16 (x.2)], .agg #[.int .u16 (y.1), .int .u16 (y.2)]] w fun e w' => e = .returned (.int .i64 (cmpI x y)) ∧ ∃ os, w' = Sort.grow w os := by
  obtain ⟨a, b⟩ := x
  obtain ⟨c, d⟩ := y
  show Calls Try.prog 50 #[.agg #[.int .u16 a, .int .u16 b], .agg #[.int .u16 c, .int .u16 d]] w _
  rcases Nat.lt_trichotomy a c with h1 | h1 | h1
  · have h2 : ¬ (a = c) := by omega
    rw [show cmpI (a, b) (c, d) = -1 by unfold cmpI; rw [if_neg (by simp; omega), if_pos (by show a < c ∨ _; omega)]]
    go_enter Try.func50, Try.ntmps50
    go_wp2
    go_ret
    exact ⟨rfl, _, by rw [Sort.alloc_eq_grow, Sort.alloc_eq_grow, Sort.grow_grow]⟩
  · subst h1
    rcases Nat.lt_trichotomy b d with h2 | h2 | h2
    · have h3 : ¬ (b = d) := by omega
      rw [show cmpI (a, b) (a, d) = -1 by unfold cmpI; rw [if_neg (by simp; omega), if_pos (by show a < a ∨ a = a ∧ b < d; omega)]]
      go_enter Try.func50, Try.ntmps50
      go_wp2
      go_ret
      exact ⟨rfl, _, by rw [Sort.alloc_eq_grow, Sort.alloc_eq_grow, Sort.grow_grow]⟩
    · subst h2
      rw [show cmpI (a, b) (a, b) = 0 by unfold cmpI; rw [if_pos rfl]]
      go_enter Try.func50, Try.ntmps50
      go_wp2
      go_ret
      exact ⟨rfl, _, by rw [Sort.alloc_eq_grow, Sort.alloc_eq_grow, Sort.grow_grow]⟩
    · have h3 : ¬ (b = d) := by omega
      have h4 : ¬ (b < d) := by omega
      rw [show cmpI (a, b) (a, d) = 1 by unfold cmpI; rw [if_neg (by simp; omega), if_neg (by show ¬ (a < a ∨ a = a ∧ b < d); omega)]]
      go_enter Try.func50, Try.ntmps50
      go_wp2
      go_ret
      exact ⟨rfl, _, by rw [Sort.alloc_eq_grow, Sort.alloc_eq_grow, Sort.grow_grow]⟩
  · have h2 : ¬ (a = c) := by omega
    have h3 : ¬ (a < c) := by omega
    rw [show cmpI (a, b) (c, d) = 1 by unfold cmpI; rw [if_neg (by simp; omega), if_neg (by show ¬ (a < c ∨ a = c ∧ b < d); omega)]]
    go_enter Try.func50, Try.ntmps50
    go_wp2
    go_ret
    exact ⟨rfl, _, by rw [Sort.alloc_eq_grow, Sort.alloc_eq_grow, Sort.grow_grow]⟩
theorem cmpB (x y : Nat × Nat) (w : World) :
    Calls Try.prog 50 #[.agg #[.int .u16 (x.1), .int .u16 (x.2)], .agg #[.int .u16 (y.1), .int .u16 (y.2)]] w fun e w' => e = .returned (.int .i64 (cmpI x y)) ∧ Below w.heap.size w w' :=
  (cmpS x y w).mono fun _ _ ⟨he, os, hw⟩ => ⟨he, by rw [hw]; exact bel_grow w os⟩
def wiB (a b c d : Nat) : Bool := decide (a ≤ b ∧ c ≤ a ∧ b ≤ d)
theorem withinS (a b c d : Nat) (w : World) :
    Calls Try.prog 29 #[.agg #[.int .u16 a, .int .u16 b], .agg #[.int .u16 c, .int .u16 d]] w fun e w' => e = .returned (.bool (wiB a b c d)) ∧ Below w.heap.size w w' := by
  by_cases h : max a c ≤ min b d
  · have hm := fun W => meet_yes a b c d W h
    obtain ⟨p, hp⟩ : ∃ p, p = max a c := ⟨_, rfl⟩
    obtain ⟨q, hq⟩ : ∃ q, q = min b d := ⟨_, rfl⟩
    rw [← hp, ← hq] at hm h
    have he : wiB a b c d = (decide (p = a) && decide (q = b)) := by
      unfold wiB
      rw [Bool.eq_iff_iff]
      simp only [decide_eq_true_eq, Bool.and_eq_true]
      omega
    rw [he]
    clear he hp hq h
    go_enter Try.func29, Try.ntmps29
    go_wp2_with (go_at_call 31; refine (hm _).mono ?_; rintro e w1 ⟨rfl, hb1⟩; obtain ⟨hc1, hf1⟩ := bcell hb1; have hz1 := hb1.size; simp at hz1; have hl1 : w.heap.size < w1.heap.size := by omega)
    all_goals
      go_ret
      exact ⟨ret_same (by rw [Bool.eq_iff_iff]; simp <;> omega), by (repeat (first | assumption | exact Below.refl _ _ | refine Below.drew ?_ | refine bel_drewN ?_ _ | refine Below.setCell ?_ (by first | omega | (simp; done) | (simp; omega)) _ | refine Below.alloc ?_ (by first | omega | (simp; done) | (simp; omega)) _ | refine bel_of ?_ (by assumption)))⟩
  · have he : wiB a b c d = false := decide_eq_false (by omega)
    have hm := fun W => meet_no a b c d W h
    rw [he]
    clear he h
    go_enter Try.func29, Try.ntmps29
    go_wp2_with (go_at_call 31; refine (hm _).mono ?_; rintro e w1 ⟨rfl, hb1⟩; obtain ⟨hc1, hf1⟩ := bcell hb1; have hz1 := hb1.size; simp at hz1; have hl1 : w.heap.size < w1.heap.size := by omega)
    go_ret
    exact ⟨rfl, by (repeat (first | assumption | exact Below.refl _ _ | refine Below.drew ?_ | refine bel_drewN ?_ _ | refine Below.setCell ?_ (by first | omega | (simp; done) | (simp; omega)) _ | refine Below.alloc ?_ (by first | omega | (simp; done) | (simp; omega)) _ | refine bel_of ?_ (by assumption)))⟩

end Go.Proofs.Ytapaoemcjpfpoaa
