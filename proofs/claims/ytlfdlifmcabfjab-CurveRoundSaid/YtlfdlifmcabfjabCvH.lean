/-
  The document's place of a point, its Place; awake.
-/
import Derived.Test.YtlfdlifmcabfjabCvE
namespace Go.Proofs.Ytlfdlifmcabfjab
open Go.RowKit
set_option linter.unusedVariables false
set_option linter.unusedSimpArgs false
set_option maxRecDepth 20000

theorem fl3 : FL 3 = 4613937818241073152 := by decide +kernel
theorem awakeC (w : World) : Calls Try.prog 5 #[] w fun e w' => e = .returned (.bool true) ∧ w' = w := by
  have A1 := fun W => at_ok 1 3 W (by omega) (by omega) (by omega) (by decide)
  have A2 := fun W => at_ok 2 15 W (by omega) (by omega) (by omega) (by decide)
  have P1 := fun W => place_any 2 0 4611686018427387904 W (by omega) (by omega)
  have P2 := fun W => place_any 2 4602678819172646912 0 W (by omega) (by omega)
  have T := fun q W => turn_any 4611686018427387904 4607182418800017408 q W
  rw [show hil 1 3 = (1, 0) by decide, show CX (1, 0).1 (1, 0).2 = .complex .f64 4607182418800017408 0 by rw [← fl1, ← fl0]] at A1
  rw [show hil 2 15 = (3, 0) by decide, show CX (3, 0).1 (3, 0).2 = .complex .f64 4613937818241073152 0 by rw [← fl3, ← fl0]] at A2
  rw [show plcA 2 0 4611686018427387904 = (4, 0) by decide +kernel] at P1
  rw [show plcA 2 4602678819172646912 0 = (0, 131) by decide +kernel] at P2
  have t1 : trn (1 % 4) 4611686018427387904 4607182418800017408 = (13830554455654793216, 4611686018427387904) := by decide +kernel
  have t2 : trn (-1 % 4) 4611686018427387904 4607182418800017408 = (4607182418800017408, 13835058055282163712) := by decide +kernel
  have t3 : trn (6 % 4) 4611686018427387904 4607182418800017408 = (13835058055282163712, 13830554455654793216) := by decide +kernel
  have T1 := fun W => T 1 W
  have T2 := fun W => T (-1) W
  have T3 := fun W => T 6 W
  rw [t1] at T1
  rw [t2] at T2
  rw [t3] at T3
  clear T t1 t2 t3
  have o1 : (FloatKind.f64.format.order 4607182418800017408 4607182418800017408 == some .eq) = true := by decide +kernel
  have o2 : (FloatKind.f64.format.order 4613937818241073152 4613937818241073152 == some .eq) = true := by decide +kernel
  have o3 : (FloatKind.f64.format.order 0 0 == some .eq) = true := by decide +kernel
  have o4 : (FloatKind.f64.format.order 13830554455654793216 13830554455654793216 == some .eq) = true := by decide +kernel
  have o5 : (FloatKind.f64.format.order 4611686018427387904 4611686018427387904 == some .eq) = true := by decide +kernel
  have o6 : (FloatKind.f64.format.order 13835058055282163712 13835058055282163712 == some .eq) = true := by decide +kernel
  simp only at A1 A2 P1 P2 T1 T2 T3
  go_enter Try.func5, Try.ntmps5
  go_wp2_with (fail)
  refine (A1 _).mono ?_
  rintro e w' ⟨rfl, hw⟩; obtain rfl := hw.symm; clear hw
  go_wp2_with (fail)
  refine (A2 _).mono ?_
  rintro e w' ⟨rfl, hw⟩; obtain rfl := hw.symm; clear hw
  go_wp2_with (fail)
  refine (P1 _).mono ?_
  rintro e w' ⟨rfl, hw⟩; obtain rfl := hw.symm; clear hw
  go_wp2_with (fail)
  refine (P2 _).mono ?_
  rintro e w' ⟨rfl, hw⟩; obtain rfl := hw.symm; clear hw
  go_wp2_with (fail)
  refine (T1 _).mono ?_
  rintro e w' ⟨rfl, hw⟩; obtain rfl := hw.symm; clear hw
  go_wp2_with (fail)
  refine (T2 _).mono ?_
  rintro e w' ⟨rfl, hw⟩; obtain rfl := hw.symm; clear hw
  go_wp2_with (fail)
  refine (T3 _).mono ?_
  rintro e w' ⟨rfl, hw⟩; obtain rfl := hw.symm; clear hw
  go_wp2_with (fail)
  go_ret
  exact ⟨rfl, rfl⟩
end Go.Proofs.Ytlfdlifmcabfjab
