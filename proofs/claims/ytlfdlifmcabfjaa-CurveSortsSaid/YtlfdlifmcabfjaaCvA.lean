/-
  The small functions of curve: contracts.
-/
import Derived.Test.YtlfdlifmcabfjaaChecked
import Derived.Test.YtlfdlifmcabfjaaPxKin
import Derived.Laws.BitsAllLaws
import Derived.Test.YtlfdlifmcabfjaaCvF
import Derived.Test.YtlfdlifmcabfjaaCvPl
namespace Go.Proofs.Ytlfdlifmcabfjaa
open Go.RowKit
set_option linter.unusedVariables false
set_option linter.unusedSimpArgs false

/-- A number of two whole parts. -/
abbrev CX (x y : Int) : Value := .complex .f64 (FL x) (FL y)
theorem fl0 : FL 0 = 0 := by decide +kernel
theorem fl1 : FL 1 = 4607182418800017408 := by decide +kernel
theorem fl2 : FL 2 = 4611686018427387904 := by decide +kernel
theorem pow_le16 {k : Nat} (h : k ≤ 16) : (2 : Int) ^ k ≤ 65536 := by
  have : (2 : Nat) ^ k ≤ 2 ^ 16 := Nat.pow_le_pow_right (by omega) h
  have h' : ((2 ^ k : Nat) : Int) ≤ ((2 ^ 16 : Nat) : Int) := Int.ofNat_le.2 this
  simpa using h'

theorem isOrder_yes (n : Int) (w : World) (h1 : 1 ≤ n) (h2 : n ≤ 16) : Calls Try.prog 25 #[.int .i64 n] w fun e w' => e = .returned (.bool true) ∧ w' = w := by
  go_enter Try.func25, Try.ntmps25
  go_wp2
  go_ret
  exact ⟨rfl, rfl⟩
theorem isOrder_no (n : Int) (w : World) (h : n < 1 ∨ 16 < n) : Calls Try.prog 25 #[.int .i64 n] w fun e w' => e = .returned (.bool false) ∧ w' = w := by
  by_cases h1 : 1 ≤ n
  · have h2 : ¬ n ≤ 16 := by omega
    clear h
    go_enter Try.func25, Try.ntmps25
    go_wp2
    go_ret
    exact ⟨rfl, rfl⟩
  · clear h
    go_enter Try.func25, Try.ntmps25
    go_wp2
    go_ret
    exact ⟨rfl, rfl⟩
theorem side_any (k : Nat) (w : World) (h : k ≤ 16) : Calls Try.prog 27 #[.int .i64 (k : Int)] w fun e w' => e = .returned (.float .f64 (FL (2 ^ k))) ∧ w' = w := by
  have hp := pow_le16 h
  have h0 := two_pos k
  go_enter Try.func27, Try.ntmps27
  go_wp2
  go_ret
  exact ⟨rfl, rfl⟩
theorem mirror_any (a b : Nat) (w : World) : Calls Try.prog 40 #[.complex .f64 a b] w fun e w' => e = .returned (.complex .f64 b a) ∧ w' = w := by
  go_enter Try.func40, Try.ntmps40
  go_wp2
  go_ret
  exact ⟨rfl, rfl⟩
theorem corner_any (h : Int) (w : World) (h0 : 1 ≤ h) (h1 : h ≤ 65536) : Calls Try.prog 41 #[.float .f64 (FL h)] w fun e w' => e = .returned (CX (2 * h - 1) (h - 1)) ∧ w' = w := by
  have e1 : ∀ t W, (binOp .mul t (.float .f64 4611686018427387904) (.float .f64 (FL h))).run Try.prog W = .ok (.float .f64 (FL (2 * h))) W := fun t W => run_float_arith _ _ _ _ _ _ _ (by rw [← fl2]; exact mul_FL (by omega) (by omega) (by omega) (by omega) (by omega))
  have e2 : ∀ t W, (binOp .sub t (.float .f64 (FL (2 * h))) (.float .f64 4607182418800017408)).run Try.prog W = .ok (.float .f64 (FL (2 * h - 1))) W := fun t W => run_float_arith _ _ _ _ _ _ _ (by rw [← fl1]; exact sub_FL (by omega) (by omega))
  have e3 : ∀ t W, (binOp .sub t (.float .f64 (FL h)) (.float .f64 4607182418800017408)).run Try.prog W = .ok (.float .f64 (FL (h - 1))) W := fun t W => run_float_arith _ _ _ _ _ _ _ (by rw [← fl1]; exact sub_FL (by omega) (by omega))
  go_enter Try.func41, Try.ntmps41
  go_wp2
  go_ret
  exact ⟨rfl, rfl⟩
end Go.Proofs.Ytlfdlifmcabfjaa
