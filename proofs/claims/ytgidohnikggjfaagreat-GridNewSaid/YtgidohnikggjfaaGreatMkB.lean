/-
  Check, Has of the document's answer; Meet, Within of package mask and of the document's answer.
-/
import Derived.Test.YtgidohnikggjfaaGreatMkA
namespace Go.Proofs.YtgidohnikggjfaaGreat
open Go.RowKit
set_option linter.unusedVariables false
set_option linter.unusedSimpArgs false

theorem rcheckM (v c : Nat) (w : World) (hv : v < 256) (hc : c < 256) :
    Calls Tryz.prog 66 #[.agg #[.int .u8 v, .int .u8 c]] w fun e w' => e = .returned (.int .i64 (chk v c)) ∧ Below w.heap.size w w' := by
  go_enter Tryz.func66, Tryz.ntmps66
  go_wp2_with (fail)
  go_loop [3] (fun i => ∃ k : Nat, k ≤ 8 ∧ i = .int .i64 k ∧ Hid (∀ j, j < k → ¬ (tb v j = 1 ∧ tb c j = 0))) (fun i => 8 - (intOf i).toNat)
  case atStart => exact ⟨0, Nat.zero_le _, rfl, fun j hj => by omega⟩
  case round =>
    obtain ⟨k, hk, rfl, hag⟩ := hrel
    by_cases hlt : k < 8
    · have hlt' : (k : Int) < 8 := by omega
      go_wp2_with (fail)
      refine (bitM v k _ hv (by omega)).mono ?_
      rintro e w' ⟨rfl, hw⟩
      obtain rfl := hw.symm
      clear hw
      have hb1 := tb_lt v k
      have hb2 := tb_lt c k
      obtain e1 | e1 : tb v k = 0 ∨ tb v k = 1 := by omega
      · rw [e1]
        go_wp2_with (fail)
        go_round
        case rel => exact ⟨k + 1, by omega, by go_num, fun j hj => by
          by_cases ej : j = k
          · subst ej; rw [e1]; simp
          · exact hag.out j (by omega)⟩
        case measure => simp [intOf]; omega
      · rw [e1]
        go_wp2_with (fail)
        refine (bitM c k _ hc (by omega)).mono ?_
        rintro e w' ⟨rfl, hw⟩
        obtain rfl := hw.symm
        clear hw
        obtain e2 | e2 : tb c k = 0 ∨ tb c k = 1 := by omega
        · rw [e2]
          go_wp2_with (fail)
          go_ret
          refine ⟨ret_int ?_, by (repeat (first | assumption | exact Below.refl _ _ | refine Below.drew ?_ | refine bel_drewN ?_ _ | refine Below.setCell ?_ (by first | omega | (simp; done) | (simp; omega)) _ | refine Below.alloc ?_ (by first | omega | (simp; done) | (simp; omega)) _ | refine bel_of ?_ (by assumption)))⟩
          cases ho : okM v c
          · exact (chk_no ho).symm
          · exact absurd ⟨e1, e2⟩ ((ok_bits hv).1 ho k hlt)
        · rw [e2]
          go_wp2_with (fail)
          go_round
          case rel => exact ⟨k + 1, by omega, by go_num, fun j hj => by
            by_cases ej : j = k
            · subst ej; rw [e2]; simp
            · exact hag.out j (by omega)⟩
          case measure => simp [intOf]; omega
    · obtain rfl : k = 8 := by omega
      go_wp2
      go_ret
      refine ⟨ret_int ?_, by (repeat (first | assumption | exact Below.refl _ _ | refine Below.drew ?_ | refine bel_drewN ?_ _ | refine Below.setCell ?_ (by first | omega | (simp; done) | (simp; omega)) _ | refine Below.alloc ?_ (by first | omega | (simp; done) | (simp; omega)) _ | refine bel_of ?_ (by assumption)))⟩
      exact (chk_ok ((ok_bits hv).2 hag.out)).symm
theorem rhasM (v c p : Nat) (w : World) (hv : v < 256) (hc : c < 256) (hp : p < 256) :
    Calls Tryz.prog 81 #[.agg #[.int .u8 v, .int .u8 c], .int .u8 p] w fun e w' => e = .returned (.bool (hasM v c p)) ∧ Below w.heap.size w w' := by
  have hcal := fun W => rcheckM v c W hv hc
  cases ho : okM v c
  · rw [hasM_of_not ho]
    rw [chk_no ho] at hcal
    go_enter Tryz.func81, Tryz.ntmps81
    go_wp2_with (fail)
    refine (hcal _).mono ?_
    rintro e w1 ⟨rfl, hb1⟩
    go_wp2
    go_ret
    exact ⟨rfl, by (repeat (first | assumption | exact Below.refl _ _ | refine Below.drew ?_ | refine bel_drewN ?_ _ | refine Below.setCell ?_ (by first | omega | (simp; done) | (simp; omega)) _ | refine Below.alloc ?_ (by first | omega | (simp; done) | (simp; omega)) _ | refine bel_of ?_ (by assumption)))⟩
  · rw [chk_ok ho] at hcal
    go_enter Tryz.func81, Tryz.ntmps81
    go_wp2_with (fail)
    refine (hcal _).mono ?_
    rintro e w1 ⟨rfl, hb1⟩
    have c0 : w1.cell? ⟨w.heap.size, 0, none⟩ = some (.int .u8 v) := cell_on1 hb1 (by simp [go_sem])
    have c1 : w1.cell? ⟨w.heap.size, 1, none⟩ = some (.int .u8 c) := cell_on1 hb1 (by simp [go_sem])
    have hbw : Hid (Below w.heap.size w w1) := by show Below _ _ _; (repeat (first | assumption | exact Below.refl _ _ | refine Below.drew ?_ | refine bel_drewN ?_ _ | refine Below.setCell ?_ (by first | omega | (simp; done) | (simp; omega)) _ | refine Below.alloc ?_ (by first | omega | (simp; done) | (simp; omega)) _ | refine bel_of ?_ (by assumption)))
    have hz1 := hb1.size
    simp at hz1
    clear hb1 hcal
    go_wp2_with (fail)
    go_loop [5] (fun i => ∃ k : Nat, k ≤ 8 ∧ i = .int .i64 k ∧ Hid (∀ j, j < k → ¬ (tb c j = 1 ∧ ¬ tb v j = tb p j))) (fun i => 8 - (intOf i).toNat)
    case atStart => exact ⟨0, Nat.zero_le _, rfl, fun j hj => by omega⟩
    case round =>
      obtain ⟨k, hk, rfl, hag⟩ := hrel
      by_cases hlt : k < 8
      · have hlt' : (k : Int) < 8 := by omega
        go_wp2_with (fail)
        refine (bitM c k _ hc (by omega)).mono ?_
        rintro e w' ⟨rfl, hw⟩
        obtain rfl := hw.symm
        clear hw
        have hb1 := tb_lt c k
        obtain e1 | e1 : tb c k = 0 ∨ tb c k = 1 := by omega
        · rw [e1]
          go_wp2_with (fail)
          go_round
          case rel => exact ⟨k + 1, by omega, by go_num, fun j hj => by
            by_cases ej : j = k
            · subst ej; rw [e1]; simp
            · exact hag.out j (by omega)⟩
          case measure => simp [intOf]; omega
        · rw [e1]
          go_wp2_with (fail)
          refine (bitM v k _ hv (by omega)).mono ?_
          rintro e w' ⟨rfl, hw⟩
          obtain rfl := hw.symm
          clear hw
          go_wp2_with (fail)
          refine (bitM p k _ hp (by omega)).mono ?_
          rintro e w' ⟨rfl, hw⟩
          obtain rfl := hw.symm
          clear hw
          by_cases e2 : tb v k = tb p k
          · rw [e2]
            go_wp2_with (fail)
            go_round
            case rel => exact ⟨k + 1, by omega, by go_num, fun j hj => by
              by_cases ej : j = k
              · subst ej; rw [e2]; simp
              · exact hag.out j (by omega)⟩
            case measure => simp [intOf]; omega
          · have e3 : ¬ ((tb v k : Nat) : Int) = ((tb p k : Nat) : Int) := by omega
            have HE : Hid (tb c k = 1 ∧ ¬ tb v k = tb p k) := ⟨e1, e2⟩
            clear e1 e2 hag
            go_wp2_with (fail)
            go_ret
            refine ⟨ret_same ?_, hbw.out⟩
            cases hh : hasM v c p
            · rfl
            · exact absurd HE.out ((has_bits hv hc ho).1 hh k hlt)
      · obtain rfl : k = 8 := by omega
        go_wp2
        go_ret
        exact ⟨ret_same ((has_bits hv hc ho).2 hag.out).symm, hbw.out⟩
end Go.Proofs.YtgidohnikggjfaaGreat
