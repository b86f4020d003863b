/-
  The document's answer: Check, Has, Count, Within, Meet.
-/
import Derived.Test.YthmekipdhlipbaaSpB
namespace Go.Proofs.Ythmekipdhlipbaa
open Go.RowKit
set_option linter.unusedVariables false
set_option linter.unusedSimpArgs false

theorem rcheckS (a b : Nat) (w : World) :
    Calls Try.prog 19 #[.agg #[.int .u16 a, .int .u16 b]] w fun e w' => e = .returned (.int .i64 (chkS a b)) ∧ Below w.heap.size w w' := by
  by_cases h : b < a
  · rw [show chkS a b = 30 from if_pos h]
    have h' : (b : Int) < (a : Int) := by omega
    clear h
    go_enter Try.func19, Try.ntmps19
    go_wp2
    go_ret
    exact ⟨rfl, by (repeat (first | assumption | exact Below.refl _ _ | refine Below.drew ?_ | refine bel_drewN ?_ _ | refine Below.setCell ?_ (by first | omega | (simp; done) | (simp; omega)) _ | refine Below.alloc ?_ (by first | omega | (simp; done) | (simp; omega)) _ | refine bel_of ?_ (by assumption)))⟩
  · rw [show chkS a b = 0 from if_neg h]
    have h' : ¬ (b : Int) < (a : Int) := by omega
    clear h
    go_enter Try.func19, Try.ntmps19
    go_wp2
    go_ret
    exact ⟨rfl, by (repeat (first | assumption | exact Below.refl _ _ | refine Below.drew ?_ | refine bel_drewN ?_ _ | refine Below.setCell ?_ (by first | omega | (simp; done) | (simp; omega)) _ | refine Below.alloc ?_ (by first | omega | (simp; done) | (simp; omega)) _ | refine bel_of ?_ (by assumption)))⟩
theorem rhasS (a b i : Nat) (w : World) :
    Calls Try.prog 21 #[.agg #[.int .u16 a, .int .u16 b], .int .u16 i] w fun e w' => e = .returned (.bool (hasB (a, b) i)) ∧ Below w.heap.size w w' := by
  have he : hasB (a, b) i = (decide (a ≤ i) && decide (i ≤ b)) := rfl
  rw [he]
  clear he
  by_cases h : a ≤ i
  · rw [decide_eq_true h, Bool.true_and]
    have d1 : decide (a ≤ i) = true := decide_eq_true h
    clear h
    go_enter Try.func21, Try.ntmps21
    go_wp2
    go_ret
    exact ⟨rfl, by (repeat (first | assumption | exact Below.refl _ _ | refine Below.drew ?_ | refine bel_drewN ?_ _ | refine Below.setCell ?_ (by first | omega | (simp; done) | (simp; omega)) _ | refine Below.alloc ?_ (by first | omega | (simp; done) | (simp; omega)) _ | refine bel_of ?_ (by assumption)))⟩
  · rw [decide_eq_false h, Bool.false_and]
    have d1 : decide (a ≤ i) = false := decide_eq_false h
    clear h
    go_enter Try.func21, Try.ntmps21
    go_wp2
    go_ret
    exact ⟨rfl, by (repeat (first | assumption | exact Below.refl _ _ | refine Below.drew ?_ | refine bel_drewN ?_ _ | refine Below.setCell ?_ (by first | omega | (simp; done) | (simp; omega)) _ | refine Below.alloc ?_ (by first | omega | (simp; done) | (simp; omega)) _ | refine bel_of ?_ (by assumption)))⟩
theorem rcountS (a b : Nat) (w : World) (ha : a < 65536) (hb : b < 65536) :
    Calls Try.prog 23 #[.agg #[.int .u16 a, .int .u16 b]] w fun e w' => e = .returned (.int .i64 (cntS a b : Int)) ∧ Below w.heap.size w w' := by
  by_cases h : b < a
  · have hc : cntS a b = 0 := by unfold cntS; omega
    rw [hc]
    have h' : (b : Int) < (a : Int) := by omega
    clear h hc
    go_enter Try.func23, Try.ntmps23
    go_wp2
    go_ret
    exact ⟨rfl, by (repeat (first | assumption | exact Below.refl _ _ | refine Below.drew ?_ | refine bel_drewN ?_ _ | refine Below.setCell ?_ (by first | omega | (simp; done) | (simp; omega)) _ | refine Below.alloc ?_ (by first | omega | (simp; done) | (simp; omega)) _ | refine bel_of ?_ (by assumption)))⟩
  · have hc : (cntS a b : Int) = (b : Int) - (a : Int) + 1 := by unfold cntS; omega
    rw [hc]
    have h' : (a : Int) ≤ (b : Int) := by omega
    clear h hc
    go_enter Try.func23, Try.ntmps23
    go_wp2
    go_ret
    exact ⟨rfl, by (repeat (first | assumption | exact Below.refl _ _ | refine Below.drew ?_ | refine bel_drewN ?_ _ | refine Below.setCell ?_ (by first | omega | (simp; done) | (simp; omega)) _ | refine Below.alloc ?_ (by first | omega | (simp; done) | (simp; omega)) _ | refine bel_of ?_ (by assumption)))⟩
theorem rwithinS (a b c d : Nat) (w : World) :
    Calls Try.prog 27 #[.agg #[.int .u16 a, .int .u16 b], .agg #[.int .u16 c, .int .u16 d]] w fun e w' => e = .returned (.bool (wiB a b c d)) ∧ Below w.heap.size w w' := by
  by_cases h1 : b < a
  · rw [show wiB a b c d = false from decide_eq_false (by omega)]
    have k1 : Hid (chkS a b = 30) := if_pos h1
    clear h1
    go_enter Try.func27, Try.ntmps27
    go_wp2_with (fail)
    refine (rcheckS a b _).mono ?_
    rw [k1.out]
    rintro e w1 ⟨rfl, hb1⟩
    go_wp2
    go_ret
    exact ⟨rfl, by (repeat (first | assumption | exact Below.refl _ _ | refine Below.drew ?_ | refine bel_drewN ?_ _ | refine Below.setCell ?_ (by first | omega | (simp; done) | (simp; omega)) _ | refine Below.alloc ?_ (by first | omega | (simp; done) | (simp; omega)) _ | refine bel_of ?_ (by assumption)))⟩
  · have k1 : Hid (chkS a b = 0) := if_neg h1
    by_cases h2 : d < c
    · rw [show wiB a b c d = false from decide_eq_false (by omega)]
      have k2 : Hid (chkS c d = 30) := if_pos h2
      go_enter Try.func27, Try.ntmps27
      go_wp2_with (fail)
      refine (rcheckS a b _).mono ?_
      rw [k1.out]
      rintro e w1 ⟨rfl, hb1⟩
      have y0 : w1.cell? ⟨w.heap.size + 1, 0, none⟩ = some (.int .u16 c) := by rw [hb1.cell (by first | (simp; done) | (simp; omega))]; simp [go_sem]
      have y1 : w1.cell? ⟨w.heap.size + 1, 1, none⟩ = some (.int .u16 d) := by rw [hb1.cell (by first | (simp; done) | (simp; omega))]; simp [go_sem]
      have hz1 := hb1.size
      simp at hz1
      go_wp2_with (fail)
      refine (rcheckS c d _).mono ?_
      rw [k2.out]
      rintro e w2 ⟨rfl, hb2⟩
      go_wp2
      go_ret
      exact ⟨rfl, by (repeat (first | assumption | exact Below.refl _ _ | refine Below.drew ?_ | refine bel_drewN ?_ _ | refine Below.setCell ?_ (by first | omega | (simp; done) | (simp; omega)) _ | refine Below.alloc ?_ (by first | omega | (simp; done) | (simp; omega)) _ | refine bel_of ?_ (by assumption)))⟩
    · have k2 : Hid (chkS c d = 0) := if_neg h2
      have he : wiB a b c d = (decide (c ≤ a) && decide (b ≤ d)) := by
        unfold wiB; rw [Bool.eq_iff_iff]; simp only [decide_eq_true_eq, Bool.and_eq_true]; omega
      rw [he]
      clear he
      by_cases h3 : c ≤ a
      · have d3 : decide (c ≤ a) = true := decide_eq_true h3
        rw [d3, Bool.true_and]
        clear h1 h2
        go_enter Try.func27, Try.ntmps27
        go_wp2_with (fail)
        refine (rcheckS a b _).mono ?_
        rw [k1.out]
        rintro e w1 ⟨rfl, hb1⟩
        have x0 : w1.cell? ⟨w.heap.size, 0, none⟩ = some (.int .u16 a) := by rw [hb1.cell (by first | (simp; done) | (simp; omega))]; simp [go_sem]
        have x1 : w1.cell? ⟨w.heap.size, 1, none⟩ = some (.int .u16 b) := by rw [hb1.cell (by first | (simp; done) | (simp; omega))]; simp [go_sem]
        have y0 : w1.cell? ⟨w.heap.size + 1, 0, none⟩ = some (.int .u16 c) := by rw [hb1.cell (by first | (simp; done) | (simp; omega))]; simp [go_sem]
        have y1 : w1.cell? ⟨w.heap.size + 1, 1, none⟩ = some (.int .u16 d) := by rw [hb1.cell (by first | (simp; done) | (simp; omega))]; simp [go_sem]
        have hz1 := hb1.size
        simp at hz1
        go_wp2_with (fail)
        refine (rcheckS c d _).mono ?_
        rw [k2.out]
        rintro e w2 ⟨rfl, hb2⟩
        have x0' : w2.cell? ⟨w.heap.size, 0, none⟩ = some (.int .u16 a) := by rw [hb2.cell (by show w.heap.size < _; omega)]; exact x0
        have x1' : w2.cell? ⟨w.heap.size, 1, none⟩ = some (.int .u16 b) := by rw [hb2.cell (by show w.heap.size < _; omega)]; exact x1
        have y0' : w2.cell? ⟨w.heap.size + 1, 0, none⟩ = some (.int .u16 c) := by rw [hb2.cell (by show w.heap.size + 1 < _; omega)]; exact y0
        have y1' : w2.cell? ⟨w.heap.size + 1, 1, none⟩ = some (.int .u16 d) := by rw [hb2.cell (by show w.heap.size + 1 < _; omega)]; exact y1
        go_wp2
        go_ret
        exact ⟨rfl, by (repeat (first | assumption | exact Below.refl _ _ | refine Below.drew ?_ | refine bel_drewN ?_ _ | refine Below.setCell ?_ (by first | omega | (simp; done) | (simp; omega)) _ | refine Below.alloc ?_ (by first | omega | (simp; done) | (simp; omega)) _ | refine bel_of ?_ (by assumption)))⟩
      · have d3 : decide (c ≤ a) = false := decide_eq_false h3
        rw [d3, Bool.false_and]
        clear h1 h2
        go_enter Try.func27, Try.ntmps27
        go_wp2_with (fail)
        refine (rcheckS a b _).mono ?_
        rw [k1.out]
        rintro e w1 ⟨rfl, hb1⟩
        have x0 : w1.cell? ⟨w.heap.size, 0, none⟩ = some (.int .u16 a) := by rw [hb1.cell (by first | (simp; done) | (simp; omega))]; simp [go_sem]
        have y0 : w1.cell? ⟨w.heap.size + 1, 0, none⟩ = some (.int .u16 c) := by rw [hb1.cell (by first | (simp; done) | (simp; omega))]; simp [go_sem]
        have y1 : w1.cell? ⟨w.heap.size + 1, 1, none⟩ = some (.int .u16 d) := by rw [hb1.cell (by first | (simp; done) | (simp; omega))]; simp [go_sem]
        have hz1 := hb1.size
        simp at hz1
        go_wp2_with (fail)
        refine (rcheckS c d _).mono ?_
        rw [k2.out]
        rintro e w2 ⟨rfl, hb2⟩
        have x0' : w2.cell? ⟨w.heap.size, 0, none⟩ = some (.int .u16 a) := by rw [hb2.cell (by show w.heap.size < _; omega)]; exact x0
        have y0' : w2.cell? ⟨w.heap.size + 1, 0, none⟩ = some (.int .u16 c) := by rw [hb2.cell (by show w.heap.size + 1 < _; omega)]; exact y0
        go_wp2
        go_ret
        exact ⟨rfl, by (repeat (first | assumption | exact Below.refl _ _ | refine Below.drew ?_ | refine bel_drewN ?_ _ | refine Below.setCell ?_ (by first | omega | (simp; done) | (simp; omega)) _ | refine Below.alloc ?_ (by first | omega | (simp; done) | (simp; omega)) _ | refine bel_of ?_ (by assumption)))⟩
theorem rmeet_no (a b c d : Nat) (w : World) (h : ¬ max a c ≤ min b d) :
    Calls Try.prog 25 #[.agg #[.int .u16 a, .int .u16 b], .agg #[.int .u16 c, .int .u16 d]] w fun e w' => e = .returned (.tuple #[.agg #[.int .u16 0, .int .u16 0], .bool false]) ∧ Below w.heap.size w w' := by
  by_cases h4 : b < a
  · have k1 : Hid (chkS a b = 30) := if_pos h4
    clear h h4
    go_enter Try.func25, Try.ntmps25
    go_wp2_with (fail)
    refine (rcheckS a b _).mono ?_
    rw [k1.out]
    rintro e w1 ⟨rfl, hb1⟩
    have x0 : w1.cell? ⟨w.heap.size, 0, none⟩ = some (.int .u16 a) := by rw [hb1.cell (by first | (simp; done) | (simp; omega))]; simp [go_sem]
    have x1 : w1.cell? ⟨w.heap.size, 1, none⟩ = some (.int .u16 b) := by rw [hb1.cell (by first | (simp; done) | (simp; omega))]; simp [go_sem]
    have y0 : w1.cell? ⟨w.heap.size + 1, 0, none⟩ = some (.int .u16 c) := by rw [hb1.cell (by first | (simp; done) | (simp; omega))]; simp [go_sem]
    have y1 : w1.cell? ⟨w.heap.size + 1, 1, none⟩ = some (.int .u16 d) := by rw [hb1.cell (by first | (simp; done) | (simp; omega))]; simp [go_sem]
    have z0 : w1.cell? ⟨w.heap.size + 1 + 1, 0, none⟩ = some (.int .u16 0) := by rw [hb1.cell (by first | (simp; done) | (simp; omega))]; simp [go_sem]
    have z1 : w1.cell? ⟨w.heap.size + 1 + 1, 1, none⟩ = some (.int .u16 0) := by rw [hb1.cell (by first | (simp; done) | (simp; omega))]; simp [go_sem]
    have fz1 : ∀ j, w1.frozen? ⟨w.heap.size + 1 + 1, j, none⟩ = false := fun j => by rw [hb1.frozen (by first | (simp; done) | (simp; omega))]; simp [go_sem]
    have hz1 := hb1.size
    simp at hz1
    go_wp2
    exact bodyPost_ret (v := .tuple #[.agg #[.int .u16 0, .int .u16 0], .bool false]) (by simp [results, Try.results25, go_sem, *]) rfl ⟨rfl, by (repeat (first | assumption | exact Below.refl _ _ | refine Below.drew ?_ | refine bel_drewN ?_ _ | refine Below.setCell ?_ (by first | omega | (simp; done) | (simp; omega)) _ | refine Below.alloc ?_ (by first | omega | (simp; done) | (simp; omega)) _ | refine bel_of ?_ (by assumption)))⟩
  · have k1 : Hid (chkS a b = 0) := if_neg h4
    by_cases h5 : d < c
    · have k2 : Hid (chkS c d = 30) := if_pos h5
      clear h h4 h5
      go_enter Try.func25, Try.ntmps25
      go_wp2_with (fail)
      refine (rcheckS a b _).mono ?_
      rw [k1.out]
      rintro e w1 ⟨rfl, hb1⟩
      have x0 : w1.cell? ⟨w.heap.size, 0, none⟩ = some (.int .u16 a) := by rw [hb1.cell (by first | (simp; done) | (simp; omega))]; simp [go_sem]
      have x1 : w1.cell? ⟨w.heap.size, 1, none⟩ = some (.int .u16 b) := by rw [hb1.cell (by first | (simp; done) | (simp; omega))]; simp [go_sem]
      have y0 : w1.cell? ⟨w.heap.size + 1, 0, none⟩ = some (.int .u16 c) := by rw [hb1.cell (by first | (simp; done) | (simp; omega))]; simp [go_sem]
      have y1 : w1.cell? ⟨w.heap.size + 1, 1, none⟩ = some (.int .u16 d) := by rw [hb1.cell (by first | (simp; done) | (simp; omega))]; simp [go_sem]
      have z0 : w1.cell? ⟨w.heap.size + 1 + 1, 0, none⟩ = some (.int .u16 0) := by rw [hb1.cell (by first | (simp; done) | (simp; omega))]; simp [go_sem]
      have z1 : w1.cell? ⟨w.heap.size + 1 + 1, 1, none⟩ = some (.int .u16 0) := by rw [hb1.cell (by first | (simp; done) | (simp; omega))]; simp [go_sem]
      have fz1 : ∀ j, w1.frozen? ⟨w.heap.size + 1 + 1, j, none⟩ = false := fun j => by rw [hb1.frozen (by first | (simp; done) | (simp; omega))]; simp [go_sem]
      have hz1 := hb1.size
      simp at hz1
      go_wp2_with (fail)
      refine (rcheckS c d _).mono ?_
      rw [k2.out]
      rintro e w2 ⟨rfl, hb2⟩
      have x0' : w2.cell? ⟨w.heap.size, 0, none⟩ = some (.int .u16 a) := by rw [hb2.cell (by show w.heap.size < _; omega)]; exact x0
      have x1' : w2.cell? ⟨w.heap.size, 1, none⟩ = some (.int .u16 b) := by rw [hb2.cell (by show w.heap.size < _; omega)]; exact x1
      have y0' : w2.cell? ⟨w.heap.size + 1, 0, none⟩ = some (.int .u16 c) := by rw [hb2.cell (by show w.heap.size + 1 < _; omega)]; exact y0
      have y1' : w2.cell? ⟨w.heap.size + 1, 1, none⟩ = some (.int .u16 d) := by rw [hb2.cell (by show w.heap.size + 1 < _; omega)]; exact y1
      have z0' : w2.cell? ⟨w.heap.size + 1 + 1, 0, none⟩ = some (.int .u16 0) := by rw [hb2.cell (by show w.heap.size + 1 + 1 < _; omega)]; exact z0
      have z1' : w2.cell? ⟨w.heap.size + 1 + 1, 1, none⟩ = some (.int .u16 0) := by rw [hb2.cell (by show w.heap.size + 1 + 1 < _; omega)]; exact z1
      have fz2 : ∀ j, w2.frozen? ⟨w.heap.size + 1 + 1, j, none⟩ = false := fun j => by rw [hb2.frozen (by show w.heap.size + 1 + 1 < _; omega)]; exact fz1 j
      have hz2 := hb2.size
      have hl20 : w.heap.size < w2.heap.size := by omega
      have hl21 : w.heap.size + 1 < w2.heap.size := by omega
      have hl22 : w.heap.size + 1 + 1 < w2.heap.size := by omega
      go_wp2
      exact bodyPost_ret (v := .tuple #[.agg #[.int .u16 0, .int .u16 0], .bool false]) (by simp [results, Try.results25, go_sem, *]) rfl ⟨rfl, by (repeat (first | assumption | exact Below.refl _ _ | refine Below.drew ?_ | refine bel_drewN ?_ _ | refine Below.setCell ?_ (by first | omega | (simp; done) | (simp; omega)) _ | refine Below.alloc ?_ (by first | omega | (simp; done) | (simp; omega)) _ | refine bel_of ?_ (by assumption)))⟩
    · have k2 : Hid (chkS c d = 0) := if_neg h5
      by_cases h1 : a < c
      · rw [show max a c = c by omega] at h
        by_cases h2 : d < b
        · rw [show min b d = d by omega] at h
          have h3 : d < c := by omega
          clear h h4 h5
          go_enter Try.func25, Try.ntmps25
          go_wp2_with (fail)
          refine (rcheckS a b _).mono ?_
          rw [k1.out]
          rintro e w1 ⟨rfl, hb1⟩
          have x0 : w1.cell? ⟨w.heap.size, 0, none⟩ = some (.int .u16 a) := by rw [hb1.cell (by first | (simp; done) | (simp; omega))]; simp [go_sem]
          have x1 : w1.cell? ⟨w.heap.size, 1, none⟩ = some (.int .u16 b) := by rw [hb1.cell (by first | (simp; done) | (simp; omega))]; simp [go_sem]
          have y0 : w1.cell? ⟨w.heap.size + 1, 0, none⟩ = some (.int .u16 c) := by rw [hb1.cell (by first | (simp; done) | (simp; omega))]; simp [go_sem]
          have y1 : w1.cell? ⟨w.heap.size + 1, 1, none⟩ = some (.int .u16 d) := by rw [hb1.cell (by first | (simp; done) | (simp; omega))]; simp [go_sem]
          have z0 : w1.cell? ⟨w.heap.size + 1 + 1, 0, none⟩ = some (.int .u16 0) := by rw [hb1.cell (by first | (simp; done) | (simp; omega))]; simp [go_sem]
          have z1 : w1.cell? ⟨w.heap.size + 1 + 1, 1, none⟩ = some (.int .u16 0) := by rw [hb1.cell (by first | (simp; done) | (simp; omega))]; simp [go_sem]
          have fz1 : ∀ j, w1.frozen? ⟨w.heap.size + 1 + 1, j, none⟩ = false := fun j => by rw [hb1.frozen (by first | (simp; done) | (simp; omega))]; simp [go_sem]
          have hz1 := hb1.size
          simp at hz1
          go_wp2_with (fail)
          refine (rcheckS c d _).mono ?_
          rw [k2.out]
          rintro e w2 ⟨rfl, hb2⟩
          have x0' : w2.cell? ⟨w.heap.size, 0, none⟩ = some (.int .u16 a) := by rw [hb2.cell (by show w.heap.size < _; omega)]; exact x0
          have x1' : w2.cell? ⟨w.heap.size, 1, none⟩ = some (.int .u16 b) := by rw [hb2.cell (by show w.heap.size < _; omega)]; exact x1
          have y0' : w2.cell? ⟨w.heap.size + 1, 0, none⟩ = some (.int .u16 c) := by rw [hb2.cell (by show w.heap.size + 1 < _; omega)]; exact y0
          have y1' : w2.cell? ⟨w.heap.size + 1, 1, none⟩ = some (.int .u16 d) := by rw [hb2.cell (by show w.heap.size + 1 < _; omega)]; exact y1
          have z0' : w2.cell? ⟨w.heap.size + 1 + 1, 0, none⟩ = some (.int .u16 0) := by rw [hb2.cell (by show w.heap.size + 1 + 1 < _; omega)]; exact z0
          have z1' : w2.cell? ⟨w.heap.size + 1 + 1, 1, none⟩ = some (.int .u16 0) := by rw [hb2.cell (by show w.heap.size + 1 + 1 < _; omega)]; exact z1
          have fz2 : ∀ j, w2.frozen? ⟨w.heap.size + 1 + 1, j, none⟩ = false := fun j => by rw [hb2.frozen (by show w.heap.size + 1 + 1 < _; omega)]; exact fz1 j
          have hz2 := hb2.size
          have hl20 : w.heap.size < w2.heap.size := by omega
          have hl21 : w.heap.size + 1 < w2.heap.size := by omega
          have hl22 : w.heap.size + 1 + 1 < w2.heap.size := by omega
          go_wp2
          exact bodyPost_ret (v := .tuple #[.agg #[.int .u16 0, .int .u16 0], .bool false]) (by simp [results, Try.results25, go_sem, *]) rfl ⟨rfl, by (repeat (first | assumption | exact Below.refl _ _ | refine Below.drew ?_ | refine bel_drewN ?_ _ | refine Below.setCell ?_ (by first | omega | (simp; done) | (simp; omega)) _ | refine Below.alloc ?_ (by first | omega | (simp; done) | (simp; omega)) _ | refine bel_of ?_ (by assumption)))⟩
        · rw [show min b d = b by omega] at h
          have h3 : b < c := by omega
          clear h h4 h5
          go_enter Try.func25, Try.ntmps25
          go_wp2_with (fail)
          refine (rcheckS a b _).mono ?_
          rw [k1.out]
          rintro e w1 ⟨rfl, hb1⟩
          have x0 : w1.cell? ⟨w.heap.size, 0, none⟩ = some (.int .u16 a) := by rw [hb1.cell (by first | (simp; done) | (simp; omega))]; simp [go_sem]
          have x1 : w1.cell? ⟨w.heap.size, 1, none⟩ = some (.int .u16 b) := by rw [hb1.cell (by first | (simp; done) | (simp; omega))]; simp [go_sem]
          have y0 : w1.cell? ⟨w.heap.size + 1, 0, none⟩ = some (.int .u16 c) := by rw [hb1.cell (by first | (simp; done) | (simp; omega))]; simp [go_sem]
          have y1 : w1.cell? ⟨w.heap.size + 1, 1, none⟩ = some (.int .u16 d) := by rw [hb1.cell (by first | (simp; done) | (simp; omega))]; simp [go_sem]
          have z0 : w1.cell? ⟨w.heap.size + 1 + 1, 0, none⟩ = some (.int .u16 0) := by rw [hb1.cell (by first | (simp; done) | (simp; omega))]; simp [go_sem]
          have z1 : w1.cell? ⟨w.heap.size + 1 + 1, 1, none⟩ = some (.int .u16 0) := by rw [hb1.cell (by first | (simp; done) | (simp; omega))]; simp [go_sem]
          have fz1 : ∀ j, w1.frozen? ⟨w.heap.size + 1 + 1, j, none⟩ = false := fun j => by rw [hb1.frozen (by first | (simp; done) | (simp; omega))]; simp [go_sem]
          have hz1 := hb1.size
          simp at hz1
          go_wp2_with (fail)
          refine (rcheckS c d _).mono ?_
          rw [k2.out]
          rintro e w2 ⟨rfl, hb2⟩
          have x0' : w2.cell? ⟨w.heap.size, 0, none⟩ = some (.int .u16 a) := by rw [hb2.cell (by show w.heap.size < _; omega)]; exact x0
          have x1' : w2.cell? ⟨w.heap.size, 1, none⟩ = some (.int .u16 b) := by rw [hb2.cell (by show w.heap.size < _; omega)]; exact x1
          have y0' : w2.cell? ⟨w.heap.size + 1, 0, none⟩ = some (.int .u16 c) := by rw [hb2.cell (by show w.heap.size + 1 < _; omega)]; exact y0
          have y1' : w2.cell? ⟨w.heap.size + 1, 1, none⟩ = some (.int .u16 d) := by rw [hb2.cell (by show w.heap.size + 1 < _; omega)]; exact y1
          have z0' : w2.cell? ⟨w.heap.size + 1 + 1, 0, none⟩ = some (.int .u16 0) := by rw [hb2.cell (by show w.heap.size + 1 + 1 < _; omega)]; exact z0
          have z1' : w2.cell? ⟨w.heap.size + 1 + 1, 1, none⟩ = some (.int .u16 0) := by rw [hb2.cell (by show w.heap.size + 1 + 1 < _; omega)]; exact z1
          have fz2 : ∀ j, w2.frozen? ⟨w.heap.size + 1 + 1, j, none⟩ = false := fun j => by rw [hb2.frozen (by show w.heap.size + 1 + 1 < _; omega)]; exact fz1 j
          have hz2 := hb2.size
          have hl20 : w.heap.size < w2.heap.size := by omega
          have hl21 : w.heap.size + 1 < w2.heap.size := by omega
          have hl22 : w.heap.size + 1 + 1 < w2.heap.size := by omega
          go_wp2
          exact bodyPost_ret (v := .tuple #[.agg #[.int .u16 0, .int .u16 0], .bool false]) (by simp [results, Try.results25, go_sem, *]) rfl ⟨rfl, by (repeat (first | assumption | exact Below.refl _ _ | refine Below.drew ?_ | refine bel_drewN ?_ _ | refine Below.setCell ?_ (by first | omega | (simp; done) | (simp; omega)) _ | refine Below.alloc ?_ (by first | omega | (simp; done) | (simp; omega)) _ | refine bel_of ?_ (by assumption)))⟩
      · rw [show max a c = a by omega] at h
        by_cases h2 : d < b
        · rw [show min b d = d by omega] at h
          have h3 : d < a := by omega
          clear h h4 h5
          go_enter Try.func25, Try.ntmps25
          go_wp2_with (fail)
          refine (rcheckS a b _).mono ?_
          rw [k1.out]
          rintro e w1 ⟨rfl, hb1⟩
          have x0 : w1.cell? ⟨w.heap.size, 0, none⟩ = some (.int .u16 a) := by rw [hb1.cell (by first | (simp; done) | (simp; omega))]; simp [go_sem]
          have x1 : w1.cell? ⟨w.heap.size, 1, none⟩ = some (.int .u16 b) := by rw [hb1.cell (by first | (simp; done) | (simp; omega))]; simp [go_sem]
          have y0 : w1.cell? ⟨w.heap.size + 1, 0, none⟩ = some (.int .u16 c) := by rw [hb1.cell (by first | (simp; done) | (simp; omega))]; simp [go_sem]
          have y1 : w1.cell? ⟨w.heap.size + 1, 1, none⟩ = some (.int .u16 d) := by rw [hb1.cell (by first | (simp; done) | (simp; omega))]; simp [go_sem]
          have z0 : w1.cell? ⟨w.heap.size + 1 + 1, 0, none⟩ = some (.int .u16 0) := by rw [hb1.cell (by first | (simp; done) | (simp; omega))]; simp [go_sem]
          have z1 : w1.cell? ⟨w.heap.size + 1 + 1, 1, none⟩ = some (.int .u16 0) := by rw [hb1.cell (by first | (simp; done) | (simp; omega))]; simp [go_sem]
          have fz1 : ∀ j, w1.frozen? ⟨w.heap.size + 1 + 1, j, none⟩ = false := fun j => by rw [hb1.frozen (by first | (simp; done) | (simp; omega))]; simp [go_sem]
          have hz1 := hb1.size
          simp at hz1
          go_wp2_with (fail)
          refine (rcheckS c d _).mono ?_
          rw [k2.out]
          rintro e w2 ⟨rfl, hb2⟩
          have x0' : w2.cell? ⟨w.heap.size, 0, none⟩ = some (.int .u16 a) := by rw [hb2.cell (by show w.heap.size < _; omega)]; exact x0
          have x1' : w2.cell? ⟨w.heap.size, 1, none⟩ = some (.int .u16 b) := by rw [hb2.cell (by show w.heap.size < _; omega)]; exact x1
          have y0' : w2.cell? ⟨w.heap.size + 1, 0, none⟩ = some (.int .u16 c) := by rw [hb2.cell (by show w.heap.size + 1 < _; omega)]; exact y0
          have y1' : w2.cell? ⟨w.heap.size + 1, 1, none⟩ = some (.int .u16 d) := by rw [hb2.cell (by show w.heap.size + 1 < _; omega)]; exact y1
          have z0' : w2.cell? ⟨w.heap.size + 1 + 1, 0, none⟩ = some (.int .u16 0) := by rw [hb2.cell (by show w.heap.size + 1 + 1 < _; omega)]; exact z0
          have z1' : w2.cell? ⟨w.heap.size + 1 + 1, 1, none⟩ = some (.int .u16 0) := by rw [hb2.cell (by show w.heap.size + 1 + 1 < _; omega)]; exact z1
          have fz2 : ∀ j, w2.frozen? ⟨w.heap.size + 1 + 1, j, none⟩ = false := fun j => by rw [hb2.frozen (by show w.heap.size + 1 + 1 < _; omega)]; exact fz1 j
          have hz2 := hb2.size
          have hl20 : w.heap.size < w2.heap.size := by omega
          have hl21 : w.heap.size + 1 < w2.heap.size := by omega
          have hl22 : w.heap.size + 1 + 1 < w2.heap.size := by omega
          go_wp2
          exact bodyPost_ret (v := .tuple #[.agg #[.int .u16 0, .int .u16 0], .bool false]) (by simp [results, Try.results25, go_sem, *]) rfl ⟨rfl, by (repeat (first | assumption | exact Below.refl _ _ | refine Below.drew ?_ | refine bel_drewN ?_ _ | refine Below.setCell ?_ (by first | omega | (simp; done) | (simp; omega)) _ | refine Below.alloc ?_ (by first | omega | (simp; done) | (simp; omega)) _ | refine bel_of ?_ (by assumption)))⟩
        · rw [show min b d = b by omega] at h
          have h3 : b < a := by omega
          clear h h4 h5
          go_enter Try.func25, Try.ntmps25
          go_wp2_with (fail)
          refine (rcheckS a b _).mono ?_
          rw [k1.out]
          rintro e w1 ⟨rfl, hb1⟩
          have x0 : w1.cell? ⟨w.heap.size, 0, none⟩ = some (.int .u16 a) := by rw [hb1.cell (by first | (simp; done) | (simp; omega))]; simp [go_sem]
          have x1 : w1.cell? ⟨w.heap.size, 1, none⟩ = some (.int .u16 b) := by rw [hb1.cell (by first | (simp; done) | (simp; omega))]; simp [go_sem]
          have y0 : w1.cell? ⟨w.heap.size + 1, 0, none⟩ = some (.int .u16 c) := by rw [hb1.cell (by first | (simp; done) | (simp; omega))]; simp [go_sem]
          have y1 : w1.cell? ⟨w.heap.size + 1, 1, none⟩ = some (.int .u16 d) := by rw [hb1.cell (by first | (simp; done) | (simp; omega))]; simp [go_sem]
          have z0 : w1.cell? ⟨w.heap.size + 1 + 1, 0, none⟩ = some (.int .u16 0) := by rw [hb1.cell (by first | (simp; done) | (simp; omega))]; simp [go_sem]
          have z1 : w1.cell? ⟨w.heap.size + 1 + 1, 1, none⟩ = some (.int .u16 0) := by rw [hb1.cell (by first | (simp; done) | (simp; omega))]; simp [go_sem]
          have fz1 : ∀ j, w1.frozen? ⟨w.heap.size + 1 + 1, j, none⟩ = false := fun j => by rw [hb1.frozen (by first | (simp; done) | (simp; omega))]; simp [go_sem]
          have hz1 := hb1.size
          simp at hz1
          go_wp2_with (fail)
          refine (rcheckS c d _).mono ?_
          rw [k2.out]
          rintro e w2 ⟨rfl, hb2⟩
          have x0' : w2.cell? ⟨w.heap.size, 0, none⟩ = some (.int .u16 a) := by rw [hb2.cell (by show w.heap.size < _; omega)]; exact x0
          have x1' : w2.cell? ⟨w.heap.size, 1, none⟩ = some (.int .u16 b) := by rw [hb2.cell (by show w.heap.size < _; omega)]; exact x1
          have y0' : w2.cell? ⟨w.heap.size + 1, 0, none⟩ = some (.int .u16 c) := by rw [hb2.cell (by show w.heap.size + 1 < _; omega)]; exact y0
          have y1' : w2.cell? ⟨w.heap.size + 1, 1, none⟩ = some (.int .u16 d) := by rw [hb2.cell (by show w.heap.size + 1 < _; omega)]; exact y1
          have z0' : w2.cell? ⟨w.heap.size + 1 + 1, 0, none⟩ = some (.int .u16 0) := by rw [hb2.cell (by show w.heap.size + 1 + 1 < _; omega)]; exact z0
          have z1' : w2.cell? ⟨w.heap.size + 1 + 1, 1, none⟩ = some (.int .u16 0) := by rw [hb2.cell (by show w.heap.size + 1 + 1 < _; omega)]; exact z1
          have fz2 : ∀ j, w2.frozen? ⟨w.heap.size + 1 + 1, j, none⟩ = false := fun j => by rw [hb2.frozen (by show w.heap.size + 1 + 1 < _; omega)]; exact fz1 j
          have hz2 := hb2.size
          have hl20 : w.heap.size < w2.heap.size := by omega
          have hl21 : w.heap.size + 1 < w2.heap.size := by omega
          have hl22 : w.heap.size + 1 + 1 < w2.heap.size := by omega
          go_wp2
          exact bodyPost_ret (v := .tuple #[.agg #[.int .u16 0, .int .u16 0], .bool false]) (by simp [results, Try.results25, go_sem, *]) rfl ⟨rfl, by (repeat (first | assumption | exact Below.refl _ _ | refine Below.drew ?_ | refine bel_drewN ?_ _ | refine Below.setCell ?_ (by first | omega | (simp; done) | (simp; omega)) _ | refine Below.alloc ?_ (by first | omega | (simp; done) | (simp; omega)) _ | refine bel_of ?_ (by assumption)))⟩
/-- Meet, both ways, and the document's: one answer. -/
theorem meets_alike (a b c d : Nat) : ∃ (p q : Nat) (r : Bool), (∀ w, Calls Try.prog 24 #[.agg #[.int .u16 a, .int .u16 b], .agg #[.int .u16 c, .int .u16 d]] w fun e w' => e = .returned (.tuple #[.agg #[.int .u16 p, .int .u16 q], .bool r]) ∧ Below w.heap.size w w') ∧
    (∀ w, Calls Try.prog 24 #[.agg #[.int .u16 c, .int .u16 d], .agg #[.int .u16 a, .int .u16 b]] w fun e w' => e = .returned (.tuple #[.agg #[.int .u16 p, .int .u16 q], .bool r]) ∧ Below w.heap.size w w') ∧
    (∀ w, Calls Try.prog 25 #[.agg #[.int .u16 a, .int .u16 b], .agg #[.int .u16 c, .int .u16 d]] w fun e w' => e = .returned (.tuple #[.agg #[.int .u16 p, .int .u16 q], .bool r]) ∧ Below w.heap.size w w') := by
  by_cases h : max a c ≤ min b d
  · refine ⟨max a c, min b d, true, fun w => meet_yes a b c d w h, fun w => ?_, fun w => rmeet_yes a b c d w h⟩
    rw [show max a c = max c a by omega, show min b d = min d b by omega]
    exact meet_yes c d a b w (by omega)
  · exact ⟨0, 0, false, fun w => meet_no a b c d w h, fun w => meet_no c d a b w (by omega), fun w => rmeet_no a b c d w h⟩
end Go.Proofs.Ythmekipdhlipbaa
