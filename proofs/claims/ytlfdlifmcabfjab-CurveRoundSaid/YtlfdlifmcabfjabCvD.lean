/-
  Turn.
-/
import Derived.Test.YtlfdlifmcabfjabCvC
namespace Go.Proofs.Ytlfdlifmcabfjab
open Go.RowKit
set_option linter.unusedVariables false
set_option linter.unusedSimpArgs false

theorem and3 (q : Int) : bits .and .i64 q 3 = q % 4 := by
  unfold bits
  have e : (BitVec.ofInt 64 q &&& BitVec.ofInt 64 3).toNat = (q % 4).toNat := by
    rw [BitVec.toNat_and, show (BitVec.ofInt 64 3).toNat = 2 ^ 2 - 1 from rfl, Nat.and_two_pow_sub_one_eq_mod, BitVec.toNat_ofInt]
    omega
  have h : (q % 4).toNat < 4 := by omega
  show IntKind.i64.wrap (((BitVec.ofInt 64 q &&& BitVec.ofInt 64 3).toNat : Nat) : Int) = _
  rw [e]
  simp [IntKind.bits, IntKind.signed, IntKind.wrap]
  omega
/-- A float with its sign turned. -/
def ngF (a : Nat) : Nat := Op.negFloat .f64 a
def trn (q : Int) (a b : Nat) : Nat × Nat := if q = 1 then (ngF b, a) else if q = 2 then (ngF a, ngF b) else if q = 3 then (b, ngF a) else (a, b)
theorem run_neg (a : Nat) (W : World) : (Op.unary .neg (.float .f64 a)).run Try.prog W = .ok (.float .f64 (ngF a)) W := rfl
theorem turn_any (a b : Nat) (q : Int) (w : World) :
    Calls Try.prog 11 #[.complex .f64 a b, .int .i64 q] w fun e w' => e = .returned (.complex .f64 (trn (q % 4) a b).1 (trn (q % 4) a b).2) ∧ w' = w := by
  have h := and3 q
  have hn := run_neg
  rcases (by omega : q % 4 = 0 ∨ q % 4 = 1 ∨ q % 4 = 2 ∨ q % 4 = 3) with e | e | e | e
  all_goals
    rw [e] at h ⊢
    go_enter Try.func11, Try.ntmps11
    go_wp2
    go_ret
    exact ⟨rfl, rfl⟩
end Go.Proofs.Ytlfdlifmcabfjab
