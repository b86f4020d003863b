/-
  Compare and Common of package prefix, and what they take of the library.
-/
import Derived.Test.YtgidohnikggjfaaGreatPxB
namespace Go.Proofs.YtgidohnikggjfaaGreat.Pf
open Go.RowKit
set_option linter.unusedVariables false
set_option linter.unusedSimpArgs false
attribute [local go_sem ↓] Go.wp_at_zero Go.wp_at_succ

theorem nan32_any (a : Int) (w : World) :
    Calls Tryz.prog 122 #[.int .u32 a] w fun e w' => e = .returned (.bool false) ∧ w' = w := by
  go_enter Tryz.func122, Tryz.ntmps122
  go_wp2
  go_ret
  exact ⟨rfl, rfl⟩
theorem nan_any (a : Int) (w : World) :
    Calls Tryz.prog 123 #[.int .i64 a] w fun e w' => e = .returned (.bool false) ∧ w' = w := by
  go_enter Tryz.func123, Tryz.ntmps123
  go_wp2
  go_ret
  exact ⟨rfl, rfl⟩
theorem cmp32_any (a b : Int) (w : World) :
    Calls Tryz.prog 110 #[.int .u32 a, .int .u32 b] w fun e w' => e = .returned (.int .i64 (cmpI a b)) ∧ w' = w := by
  rcases Int.lt_trichotomy a b with h | h | h
  · have d : decide (a < b) = true := decide_eq_true h
    rw [show cmpI a b = -1 by simp [cmpI, h]]
    go_enter Tryz.func110, Tryz.ntmps110
    go_wp2_with (go_at_call 122; refine (nan32_any _ _).mono ?_; rintro e w' ⟨rfl, hw⟩; obtain rfl := hw.symm; clear hw)
    go_ret
    exact ⟨rfl, rfl⟩
  · subst h
    rw [show cmpI a a = 0 by simp [cmpI]]
    have d : decide (a < a) = false := decide_eq_false (by omega)
    go_enter Tryz.func110, Tryz.ntmps110
    go_wp2_with (go_at_call 122; refine (nan32_any _ _).mono ?_; rintro e w' ⟨rfl, hw⟩; obtain rfl := hw.symm; clear hw)
    go_ret
    exact ⟨rfl, rfl⟩
  · have h' : ¬ a < b := by omega
    have d : decide (a < b) = false := decide_eq_false h'
    have d' : decide (b < a) = true := decide_eq_true h
    rw [show cmpI a b = 1 by simp [cmpI, h, h']]
    go_enter Tryz.func110, Tryz.ntmps110
    go_wp2_with (go_at_call 122; refine (nan32_any _ _).mono ?_; rintro e w' ⟨rfl, hw⟩; obtain rfl := hw.symm; clear hw)
    go_ret
    exact ⟨rfl, rfl⟩
theorem cmp_any (a b : Int) (w : World) :
    Calls Tryz.prog 111 #[.int .i64 a, .int .i64 b] w fun e w' => e = .returned (.int .i64 (cmpI a b)) ∧ w' = w := by
  rcases Int.lt_trichotomy a b with h | h | h
  · have d : decide (a < b) = true := decide_eq_true h
    rw [show cmpI a b = -1 by simp [cmpI, h]]
    go_enter Tryz.func111, Tryz.ntmps111
    go_wp2_with (go_at_call 123; refine (nan_any _ _).mono ?_; rintro e w' ⟨rfl, hw⟩; obtain rfl := hw.symm; clear hw)
    go_ret
    exact ⟨rfl, rfl⟩
  · subst h
    rw [show cmpI a a = 0 by simp [cmpI]]
    have d : decide (a < a) = false := decide_eq_false (by omega)
    go_enter Tryz.func111, Tryz.ntmps111
    go_wp2_with (go_at_call 123; refine (nan_any _ _).mono ?_; rintro e w' ⟨rfl, hw⟩; obtain rfl := hw.symm; clear hw)
    go_ret
    exact ⟨rfl, rfl⟩
  · have h' : ¬ a < b := by omega
    have d : decide (a < b) = false := decide_eq_false h'
    have d' : decide (b < a) = true := decide_eq_true h
    rw [show cmpI a b = 1 by simp [cmpI, h, h']]
    go_enter Tryz.func111, Tryz.ntmps111
    go_wp2_with (go_at_call 123; refine (nan_any _ _).mono ?_; rintro e w' ⟨rfl, hw⟩; obtain rfl := hw.symm; clear hw)
    go_ret
    exact ⟨rfl, rfl⟩
theorem or_any (x y : Int) (g : Nat) (w : World) (h0 : w.cell? ⟨g, 0, none⟩ = some (.int .i64 x)) (h1 : w.cell? ⟨g, 1, none⟩ = some (.int .i64 y)) :
    Calls Tryz.prog 109 #[.slice (some ⟨g, 0, none⟩) 2 2] w fun e w' => e = .returned (.int .i64 (orI x y)) ∧ w' = w := by
  go_enter Tryz.func109, Tryz.ntmps109
  go_wp2
  go_loop [8] (fun i => (i = .int .i64 0) ∨ (i = .int .i64 1 ∧ x = 0) ∨ (i = .int .i64 2 ∧ x = 0 ∧ y = 0)) (fun i => 2 - (intOf i).toNat)
  case atStart => exact .inl rfl
  case round =>
    rcases hrel with rfl | ⟨rfl, rfl⟩ | ⟨rfl, rfl, rfl⟩
    · by_cases hx : x = 0
      · subst hx
        go_wp2
        go_round
        case rel => exact .inr (.inl ⟨rfl, by simp⟩)
        case measure => simp [intOf]
      · have hx' : (x != 0) = true := by simpa using hx
        go_wp2
        go_ret
        exact ⟨ret_int (by simp [orI, hx]), rfl⟩
    · by_cases hx : y = 0
      · subst hx
        go_wp2
        go_round
        case rel => exact .inr (.inr ⟨rfl, by simp, by simp⟩)
        case measure => simp [intOf]
      · have hx' : (y != 0) = true := by simpa using hx
        go_wp2
        go_ret
        exact ⟨ret_int (by simp [orI]), rfl⟩
    · go_wp2
      go_ret
      exact ⟨rfl, rfl⟩
theorem compare_any (a : Nat) (n : Int) (b : Nat) (m : Int) (w : World) :
    Calls Tryz.prog 100 #[.agg #[.int .u32 a, .int .i64 n], .agg #[.int .u32 b, .int .i64 m]] w fun e w' => e = .returned (.int .i64 (orI (cmpI a b) (cmpI n m))) ∧ Below w.heap.size w w' := by
  go_enter Tryz.func100, Tryz.ntmps100
  go_wp2
  go_region_held3 (fun w' => w'.cell? ⟨w.heap.size, 0, none⟩ = some (.int .u32 a) ∧ w'.cell? ⟨w.heap.size, 1, none⟩ = some (.int .i64 n) ∧ w'.cell? ⟨w.heap.size + 1, 0, none⟩ = some (.int .u32 b) ∧ w'.cell? ⟨w.heap.size + 1, 1, none⟩ = some (.int .i64 m)) (go_keep) (first | (go_at_call 110; refine (cmp32_any _ _ _).mono ?_; rintro e w' ⟨rfl, hw⟩; obtain rfl := hw.symm; clear hw) | (go_at_call 111; refine (cmp_any _ _ _).mono ?_; rintro e w' ⟨rfl, hw⟩; obtain rfl := hw.symm; clear hw) | (go_at_call 109; refine (or_any (cmpI a b) (cmpI n m) _ _ ?_ ?_).mono ?_; (simp [go_sem]); (simp [go_sem]); rintro e w' ⟨rfl, hw⟩; obtain rfl := hw.symm; clear hw))
  go_wp2
  go_ret
  exact ⟨rfl, by (repeat (first | assumption | exact Below.refl _ _ | refine Below.drew ?_ | refine bel_drewN ?_ _ | refine Below.setCell ?_ (by first | omega | (simp; done) | (simp; omega)) _ | refine Below.alloc ?_ (by first | omega | (simp; done) | (simp; omega)) _ | refine bel_of ?_ (by assumption)))⟩
end Go.Proofs.YtgidohnikggjfaaGreat.Pf
