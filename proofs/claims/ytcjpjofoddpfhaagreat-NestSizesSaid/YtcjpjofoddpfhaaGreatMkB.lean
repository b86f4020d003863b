/-
  Check, Has of the document's answer; Meet, Within of package mask and of the document's answer.
-/
import Derived.Test.YtcjpjofoddpfhaaGreatMkA
namespace Go.Proofs.YtcjpjofoddpfhaaGreat
open Go.RowKit
set_option linter.unusedVariables false
set_option linter.unusedSimpArgs false

theorem rcheckM (v c : Nat) (w : World) (hv : v < 256) (hc : c < 256) :
    Calls Tryz.prog 90 #[.agg #[.int .u8 v, .int .u8 c]] w fun e w' => e = .returned (.int .i64 (chk v c)) ∧ Below w.heap.size w w' := by
  go_enter Tryz.func90, Tryz.ntmps90
  go_wp2_with (fail)
  go_loop [3] (fun i => ∃ k : Nat, k ≤ 8 ∧ i = .int .i64 k ∧ Hid (∀ j, j < k → ¬ (tb v j = 1 ∧ tb c j = 0))) (fun i => 8 - (intOf i).toNat)
  case atStart => exact ⟨0, Nat.zero_le _, rfl, fun j hj => by omega⟩
  case round =>
    obtain ⟨k, hk, rfl, hag⟩ := hrel
    by_cases hlt : k < 8
    · have hlt' : (k : Int) < 8 := by omega
      go_wp2_with (fail)
      refine (bitM v k _ hv (by omega)).mono ?_
      rintro e w' ⟨rfl, hw⟩
      obtain rfl := hw.symm
      clear hw
      have hb1 := tb_lt v k
      have hb2 := tb_lt c k
      obtain e1 | e1 : tb v k = 0 ∨ tb v k = 1 := by omega
      · rw [e1]
        go_wp2_with (fail)
        go_round
        case rel => exact ⟨k + 1, by omega, by go_num, fun j hj => by
          by_cases ej : j = k
          · subst ej; rw [e1]; simp
          · exact hag.out j (by omega)⟩
        case measure => simp [intOf]; omega
      · rw [e1]
        go_wp2_with (fail)
        refine (bitM c k _ hc (by omega)).mono ?_
        rintro e w' ⟨rfl, hw⟩
        obtain rfl := hw.symm
        clear hw
        obtain e2 | e2 : tb c k = 0 ∨ tb c k = 1 := by omega
        · rw [e2]
          go_wp2_with (fail)
          go_ret
          refine ⟨ret_int ?_, by (repeat (first | assumption | exact Below.refl _ _ | refine Below.drew ?_ | refine bel_drewN ?_ _ | refine Below.setCell ?_ (by first | omega | (simp; done) | (simp; omega)) _ | refine Below.alloc ?_ (by first | omega | (simp; done) | (simp; omega)) _ | refine bel_of ?_ (by assumption)))⟩
          cases ho : okM v c
          · exact (chk_no ho).symm
          · exact absurd ⟨e1, e2⟩ ((ok_bits hv).1 ho k hlt)
        · rw [e2]
          go_wp2_with (fail)
          go_round
          case rel => exact ⟨k + 1, by omega, by go_num, fun j hj => by
            by_cases ej : j = k
            · subst ej; rw [e2]; simp
            · exact hag.out j (by omega)⟩
          case measure => simp [intOf]; omega
    · obtain rfl : k = 8 := by omega
      go_wp2
      go_ret
      refine ⟨ret_int ?_, by (repeat (first | assumption | exact Below.refl _ _ | refine Below.drew ?_ | refine bel_drewN ?_ _ | refine Below.setCell ?_ (by first | omega | (simp; done) | (simp; omega)) _ | refine Below.alloc ?_ (by first | omega | (simp; done) | (simp; omega)) _ | refine bel_of ?_ (by assumption)))⟩
      exact (chk_ok ((ok_bits hv).2 hag.out)).symm
end Go.Proofs.YtcjpjofoddpfhaaGreat
