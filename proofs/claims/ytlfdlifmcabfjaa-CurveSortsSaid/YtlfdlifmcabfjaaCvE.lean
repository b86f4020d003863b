/-
  The document's At, Place; a point as a number.
-/
import Derived.Test.YtlfdlifmcabfjaaCvD
namespace Go.Proofs.Ytlfdlifmcabfjaa
open Go.RowKit
set_option linter.unusedVariables false
set_option linter.unusedSimpArgs false
set_option maxRecDepth 20000

theorem rAt_order (n p : Int) (w : World) (h : n < 1 ∨ 16 < n) :
    Calls Try.prog 10 #[.int .i64 n, .int .i64 p] w fun e w' => e = .returned (.tuple #[.agg #[.int .i64 0, .int .i64 0], .int .i64 130]) ∧ Below w.heap.size w w' := by
  rcases h with h | h
  · go_enter Try.func10, Try.ntmps10
    go_wp2
    exact bodyPost_ret (v := .tuple #[.agg #[.int .i64 0, .int .i64 0], .int .i64 130]) (by simp [results, Try.results10, go_sem]) rfl ⟨rfl, by (repeat (first | assumption | exact Below.refl _ _ | refine Below.drew ?_ | refine bel_drewN ?_ _ | refine Below.setCell ?_ (by first | omega | (simp; done) | (simp; omega)) _ | refine Below.alloc ?_ (by first | omega | (simp; done) | (simp; omega)) _ | refine bel_of ?_ (by assumption)))⟩
  · have h' : ¬ n < 1 := by omega
    go_enter Try.func10, Try.ntmps10
    go_wp2
    exact bodyPost_ret (v := .tuple #[.agg #[.int .i64 0, .int .i64 0], .int .i64 130]) (by simp [results, Try.results10, go_sem]) rfl ⟨rfl, by (repeat (first | assumption | exact Below.refl _ _ | refine Below.drew ?_ | refine bel_drewN ?_ _ | refine Below.setCell ?_ (by first | omega | (simp; done) | (simp; omega)) _ | refine Below.alloc ?_ (by first | omega | (simp; done) | (simp; omega)) _ | refine bel_of ?_ (by assumption)))⟩
theorem rAt_no (n : Nat) (p : Int) (w : World) (h1 : 1 ≤ n) (h2 : n ≤ 16) (h : p < 0 ∨ 4 ^ n ≤ p) :
    Calls Try.prog 10 #[.int .i64 (n : Int), .int .i64 p] w fun e w' => e = .returned (.tuple #[.agg #[.int .i64 0, .int .i64 0], .int .i64 131]) ∧ Below w.heap.size w w' := by
  have hb := pow_le4 h2
  have hp := four_pos n
  have hs := four_sq n
  have g1 : ¬ (n : Int) < 1 := by omega
  have g2 : ¬ (16 : Int) < (n : Int) := by omega
  by_cases h0 : p < 0
  · clear h
    go_enter Try.func10, Try.ntmps10
    go_wp2
    exact bodyPost_ret (v := .tuple #[.agg #[.int .i64 0, .int .i64 0], .int .i64 131]) (by simp [results, Try.results10, go_sem]) rfl ⟨rfl, by (repeat (first | assumption | exact Below.refl _ _ | refine Below.drew ?_ | refine bel_drewN ?_ _ | refine Below.setCell ?_ (by first | omega | (simp; done) | (simp; omega)) _ | refine Below.alloc ?_ (by first | omega | (simp; done) | (simp; omega)) _ | refine bel_of ?_ (by assumption)))⟩
  · have h3 : 4 ^ n ≤ p := by omega
    clear h
    go_enter Try.func10, Try.ntmps10
    go_wp2
    exact bodyPost_ret (v := .tuple #[.agg #[.int .i64 0, .int .i64 0], .int .i64 131]) (by simp [results, Try.results10, go_sem]) rfl ⟨rfl, by (repeat (first | assumption | exact Below.refl _ _ | refine Below.drew ?_ | refine bel_drewN ?_ _ | refine Below.setCell ?_ (by first | omega | (simp; done) | (simp; omega)) _ | refine Below.alloc ?_ (by first | omega | (simp; done) | (simp; omega)) _ | refine bel_of ?_ (by assumption)))⟩
theorem rAt_ok (n : Nat) (p : Int) (w : World) (h1 : 1 ≤ n) (h2 : n ≤ 16) (h0 : 0 ≤ p) (h : p < 4 ^ n) :
    Calls Try.prog 10 #[.int .i64 (n : Int), .int .i64 p] w fun e w' => e = .returned (.tuple #[.agg #[.int .i64 (hil n p).1, .int .i64 (hil n p).2], .int .i64 0]) ∧ Below w.heap.size w w' := by
  have hb := pow_le4 h2
  have hp := four_pos n
  have hs := four_sq n
  have g1 : ¬ (n : Int) < 1 := by omega
  have g2 : ¬ (16 : Int) < (n : Int) := by omega
  have g3 : ¬ p < 0 := by omega
  have g4 : ¬ 4 ^ n ≤ p := by omega
  have R := fun W => rat_any n p W h2 h0 h
  clear h
  go_enter Try.func10, Try.ntmps10
  go_wp2_with (go_at_call 28; refine (R _).mono ?_; rintro e1 w1 ⟨rfl, hb1⟩; obtain ⟨hc1, hf1⟩ := bcell hb1; have hz1 : w.heap.size < w1.heap.size := (by have := hb1.size; simp at this; omega); replace hb1 : Hid _ := hb1)
  refine bodyPost_ret (v := .tuple #[.agg #[.int .i64 (hil n p).1, .int .i64 (hil n p).2], .int .i64 0]) (by simp [results, Try.results10, go_sem, hc1, hz1]) rfl ⟨rfl, ?_⟩
  have hb := hb1.out
  (repeat (first | assumption | exact Below.refl _ _ | refine Below.drew ?_ | refine bel_drewN ?_ _ | refine Below.setCell ?_ (by first | omega | (simp; done) | (simp; omega)) _ | refine Below.alloc ?_ (by first | omega | (simp; done) | (simp; omega)) _ | refine bel_of ?_ (by assumption)))
theorem number_any (x y : Int) (w : World) :
    Calls Try.prog 12 #[.agg #[.int .i64 x, .int .i64 y]] w fun e w' => e = .returned (CX x y) ∧ Below w.heap.size w w' := by
  go_enter Try.func12, Try.ntmps12
  go_wp2
  go_ret
  exact ⟨rfl, by (repeat (first | assumption | exact Below.refl _ _ | refine Below.drew ?_ | refine bel_drewN ?_ _ | refine Below.setCell ?_ (by first | omega | (simp; done) | (simp; omega)) _ | refine Below.alloc ?_ (by first | omega | (simp; done) | (simp; omega)) _ | refine bel_of ?_ (by assumption)))⟩
/-- The whole number that a float is; -1: it is none. -/
theorem whole_any (n : Nat) (b : Nat) (w : World) (hn : n ≤ 16) :
    Calls Try.prog 31 #[.float .f64 b, .int .i64 (2 ^ n)] w fun e w' => e = .returned (.int .i64 ((wh n b).getD (-1))) ∧ w' = w := by
  cases h0 : ge0 b
  · have hz : (wh n b).getD (-1) = -1 := by unfold wh; rw [h0]; rfl
    rw [hz]
    have h0' : (FloatKind.f64.format.order b 0 == some .gt || FloatKind.f64.format.order b 0 == some .eq) = false := h0
    clear hz h0
    go_enter Try.func31, Try.ntmps31
    go_wp2
    go_ret
    exact ⟨rfl, rfl⟩
  · have h0' : (FloatKind.f64.format.order b 0 == some .gt || FloatKind.f64.format.order b 0 == some .eq) = true := h0
    have hcv : ∀ (v : Int), floatOfInt .f64 v = FL v := fun _ => rfl
    cases h1 : ltN n b
    · have hz : (wh n b).getD (-1) = -1 := by unfold wh; rw [h0, h1]; rfl
      rw [hz]
      have h1' : (FloatKind.f64.format.order b (FL (2 ^ n)) == some .lt) = false := h1
      clear hz h0 h1
      go_enter Try.func31, Try.ntmps31
      go_wp2
      go_ret
      exact ⟨rfl, rfl⟩
    · have h1' : (FloatKind.f64.format.order b (FL (2 ^ n)) == some .lt) = true := h1
      obtain ⟨s, m, i, q, hr, hi, hw, ht, hlo, hhi, _, _, _⟩ := rng_whole hn h0 h1
      have hp := pow_small hn
      have hv : floatToIntVal .f64 b .i64 = some (whI b) := by
        unfold floatToIntVal
        have : (FloatKind.f64.decode b).toInt .zero = some (whI b) := ht
        rw [this]
        simp only
        rw [if_pos]
        exact ⟨by show (-9223372036854775808 : Int) ≤ _; omega, by show _ ≤ (9223372036854775807 : Int); omega⟩
      have hE := (ord_same hn h0 h1 (wd_FL (n := whI b) (by omega))).2
      have hE' : (FloatKind.f64.format.order (FL (whI b)) b == some .eq) = eqW b := hE
      have hz : (wh n b).getD (-1) = if eqW b = true then whI b else -1 := by unfold wh; rw [h0, h1]; cases eqW b <;> rfl
      rw [hz]
      have hcv2 : ∀ W : World, (convert 33 3 (.float .f64 b)).run Try.prog W = .ok (.int .i64 (whI b)) W := fun W => run_convert_float_int W _ _ _ _ _ _ (by rw [Try.underlying33]; rfl) Try.underlying3 hv
      clear hz h0 h1 hE hr hi hw ht hv
      cases he : eqW b
      all_goals
        rw [he] at hE'
        go_enter Try.func31, Try.ntmps31
        go_wp2
        go_ret
        exact ⟨rfl, rfl⟩
end Go.Proofs.Ytlfdlifmcabfjaa
