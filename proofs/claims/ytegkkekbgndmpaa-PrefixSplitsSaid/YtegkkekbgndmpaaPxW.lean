/-
  What Less of the document's answer hands back: a list of its own that holds the pieces.
-/
import Derived.Test.YtegkkekbgndmpaaPxV
namespace Go.Proofs.Ytegkkekbgndmpaa
open Go.RowKit
set_option linter.unusedVariables false
set_option linter.unusedSimpArgs false

set_option maxHeartbeats 2000000 in
theorem rless_bad (a : Nat) (n : Int) (b : Nat) (m : Int) (w : World) (ha : a < 4294967296) (hb : b < 4294967296) (h : cE a n b m ≠ 0) :
    Calls Try.prog 27 #[.agg #[.int .u32 a, .int .i64 n], .agg #[.int .u32 b, .int .i64 m]] w fun e w' => e = .returned (.slice none 0 0) ∧ Below w.heap.size w w' := by
  have c0 : ((w.alloc (.cells #[.int .u32 (a : Int), .int .i64 n] 24)).alloc (.cells #[.int .u32 (b : Int), .int .i64 m] 24)).cell? ⟨w.heap.size, 0, none⟩ = some (.int .u32 (a : Int)) := by simp [go_sem]
  have c1 : ((w.alloc (.cells #[.int .u32 (a : Int), .int .i64 n] 24)).alloc (.cells #[.int .u32 (b : Int), .int .i64 m] 24)).cell? ⟨w.heap.size, 1, none⟩ = some (.int .i64 n) := by simp [go_sem]
  have c2 : ((w.alloc (.cells #[.int .u32 (a : Int), .int .i64 n] 24)).alloc (.cells #[.int .u32 (b : Int), .int .i64 m] 24)).cell? ⟨w.heap.size + 1, 0, none⟩ = some (.int .u32 (b : Int)) := by simp [go_sem]
  have c3 : ((w.alloc (.cells #[.int .u32 (a : Int), .int .i64 n] 24)).alloc (.cells #[.int .u32 (b : Int), .int .i64 m] 24)).cell? ⟨w.heap.size + 1, 1, none⟩ = some (.int .i64 m) := by simp [go_sem]
  have lt1 : w.heap.size < w.heap.size + 1 + 1 := by omega
  by_cases k : chk a n = 0
  · have h' : (chk b m != 0) = true := by
      unfold cE at h; rw [if_pos k] at h; simpa using h
    clear h
    go_enter Try.func27, Try.ntmps27
    go_wp2_with (go_at_call 19; refine (rcheck_any _ _ _ ?_).mono ?_; assumption; rintro e w1 ⟨rfl, hb1⟩; have hz1 := hb1.size; (try simp at hz1); have hl10 : w.heap.size < w1.heap.size := (by first | omega | (simp at hz1; omega)); have hl11 : w.heap.size + 1 < w1.heap.size := (by first | omega | (simp at hz1; omega)); have c0 : w1.cell? ⟨w.heap.size, 0, none⟩ = some (.int .u32 (a : Int)) := cell_on hb1 c0; have c1 : w1.cell? ⟨w.heap.size, 1, none⟩ = some (.int .i64 n) := cell_on hb1 c1; have c2 : w1.cell? ⟨w.heap.size + 1, 0, none⟩ = some (.int .u32 (b : Int)) := cell_on hb1 c2; have c3 : w1.cell? ⟨w.heap.size + 1, 1, none⟩ = some (.int .i64 m) := cell_on hb1 c3)
    go_ret
    exact ⟨rfl, by (repeat (first | assumption | exact Below.refl _ _ | refine Below.drew ?_ | refine bel_drewN ?_ _ | refine Below.setCell ?_ (by first | omega | (simp; done) | (simp; omega)) _ | refine Below.alloc ?_ (by first | omega | (simp; done) | (simp; omega)) _ | refine bel_of ?_ (by assumption)))⟩
  · have h' : (chk a n != 0) = true := by simpa using k
    clear h
    go_enter Try.func27, Try.ntmps27
    go_wp2_with (go_at_call 19; refine (rcheck_any _ _ _ ?_).mono ?_; assumption; rintro e w1 ⟨rfl, hb1⟩; have hz1 := hb1.size; (try simp at hz1); have hl10 : w.heap.size < w1.heap.size := (by first | omega | (simp at hz1; omega)); have hl11 : w.heap.size + 1 < w1.heap.size := (by first | omega | (simp at hz1; omega)); have c0 : w1.cell? ⟨w.heap.size, 0, none⟩ = some (.int .u32 (a : Int)) := cell_on hb1 c0; have c1 : w1.cell? ⟨w.heap.size, 1, none⟩ = some (.int .i64 n) := cell_on hb1 c1; have c2 : w1.cell? ⟨w.heap.size + 1, 0, none⟩ = some (.int .u32 (b : Int)) := cell_on hb1 c2; have c3 : w1.cell? ⟨w.heap.size + 1, 1, none⟩ = some (.int .i64 m) := cell_on hb1 c3)
    go_ret
    exact ⟨rfl, by (repeat (first | assumption | exact Below.refl _ _ | refine Below.drew ?_ | refine bel_drewN ?_ _ | refine Below.setCell ?_ (by first | omega | (simp; done) | (simp; omega)) _ | refine Below.alloc ?_ (by first | omega | (simp; done) | (simp; omega)) _ | refine bel_of ?_ (by assumption)))⟩
set_option maxHeartbeats 2000000 in
theorem rless_in (a n b m : Nat) (w : World) (ha : a < 4294967296) (hb : b < 4294967296) (ka : chk a (n : Int) = 0) (kb : chk b (m : Int) = 0) (k1 : witB a n b m = true) :
    Calls Try.prog 27 #[.agg #[.int .u32 a, .int .i64 n], .agg #[.int .u32 b, .int .i64 m]] w fun e w' => e = .returned (.slice none 0 0) ∧ Below w.heap.size w w' := by
  have c0 : ((w.alloc (.cells #[.int .u32 (a : Int), .int .i64 (n : Int)] 24)).alloc (.cells #[.int .u32 (b : Int), .int .i64 (m : Int)] 24)).cell? ⟨w.heap.size, 0, none⟩ = some (.int .u32 (a : Int)) := by simp [go_sem]
  have c1 : ((w.alloc (.cells #[.int .u32 (a : Int), .int .i64 (n : Int)] 24)).alloc (.cells #[.int .u32 (b : Int), .int .i64 (m : Int)] 24)).cell? ⟨w.heap.size, 1, none⟩ = some (.int .i64 (n : Int)) := by simp [go_sem]
  have c2 : ((w.alloc (.cells #[.int .u32 (a : Int), .int .i64 (n : Int)] 24)).alloc (.cells #[.int .u32 (b : Int), .int .i64 (m : Int)] 24)).cell? ⟨w.heap.size + 1, 0, none⟩ = some (.int .u32 (b : Int)) := by simp [go_sem]
  have c3 : ((w.alloc (.cells #[.int .u32 (a : Int), .int .i64 (n : Int)] 24)).alloc (.cells #[.int .u32 (b : Int), .int .i64 (m : Int)] 24)).cell? ⟨w.heap.size + 1, 1, none⟩ = some (.int .i64 (m : Int)) := by simp [go_sem]
  have lt1 : w.heap.size < w.heap.size + 1 + 1 := by omega
  go_enter Try.func27, Try.ntmps27
  go_wp2_with (first | (go_at_call 19; refine (rcheck_any _ _ _ ?_).mono ?_; assumption; rintro e w1 ⟨rfl, hb1⟩; have hz1 := hb1.size; (try simp at hz1); have hl10 : w.heap.size < w1.heap.size := (by first | omega | (simp at hz1; omega)); have hl11 : w.heap.size + 1 < w1.heap.size := (by first | omega | (simp at hz1; omega)); have c0 : w1.cell? ⟨w.heap.size, 0, none⟩ = some (.int .u32 (a : Int)) := cell_on hb1 c0; have c1 : w1.cell? ⟨w.heap.size, 1, none⟩ = some (.int .i64 (n : Int)) := cell_on hb1 c1; have c2 : w1.cell? ⟨w.heap.size + 1, 0, none⟩ = some (.int .u32 (b : Int)) := cell_on hb1 c2; have c3 : w1.cell? ⟨w.heap.size + 1, 1, none⟩ = some (.int .i64 (m : Int)) := cell_on hb1 c3) | (go_at_call 23; refine (rwithin_any _ _ _ _ _ ?_ ?_).mono ?_; assumption; assumption; rintro e w1 ⟨rfl, hb1⟩; have hz1 := hb1.size; (try simp at hz1); have hl10 : w.heap.size < w1.heap.size := (by first | omega | (simp at hz1; omega)); have hl11 : w.heap.size + 1 < w1.heap.size := (by first | omega | (simp at hz1; omega)); have c0 : w1.cell? ⟨w.heap.size, 0, none⟩ = some (.int .u32 (a : Int)) := cell_on hb1 c0; have c1 : w1.cell? ⟨w.heap.size, 1, none⟩ = some (.int .i64 (n : Int)) := cell_on hb1 c1; have c2 : w1.cell? ⟨w.heap.size + 1, 0, none⟩ = some (.int .u32 (b : Int)) := cell_on hb1 c2; have c3 : w1.cell? ⟨w.heap.size + 1, 1, none⟩ = some (.int .i64 (m : Int)) := cell_on hb1 c3))
  go_ret
  exact ⟨rfl, by (repeat (first | assumption | exact Below.refl _ _ | refine Below.drew ?_ | refine bel_drewN ?_ _ | refine Below.setCell ?_ (by first | omega | (simp; done) | (simp; omega)) _ | refine Below.alloc ?_ (by first | omega | (simp; done) | (simp; omega)) _ | refine bel_of ?_ (by assumption)))⟩
set_option maxHeartbeats 2000000 in
theorem rless_apart (a n b m : Nat) (w : World) (ha : a < 4294967296) (hb : b < 4294967296) (ka : chk a (n : Int) = 0) (kb : chk b (m : Int) = 0) (k1 : witB a n b m = false) (k2 : witB b m a n = false) :
    Calls Try.prog 27 #[.agg #[.int .u32 a, .int .i64 n], .agg #[.int .u32 b, .int .i64 m]] w fun e w' => ∃ v, e = .returned v ∧ Row w' w.heap.size v [(a, n)] ∧ Below w.heap.size w w' := by
  have c0 : ((w.alloc (.cells #[.int .u32 (a : Int), .int .i64 (n : Int)] 24)).alloc (.cells #[.int .u32 (b : Int), .int .i64 (m : Int)] 24)).cell? ⟨w.heap.size, 0, none⟩ = some (.int .u32 (a : Int)) := by simp [go_sem]
  have c1 : ((w.alloc (.cells #[.int .u32 (a : Int), .int .i64 (n : Int)] 24)).alloc (.cells #[.int .u32 (b : Int), .int .i64 (m : Int)] 24)).cell? ⟨w.heap.size, 1, none⟩ = some (.int .i64 (n : Int)) := by simp [go_sem]
  have c2 : ((w.alloc (.cells #[.int .u32 (a : Int), .int .i64 (n : Int)] 24)).alloc (.cells #[.int .u32 (b : Int), .int .i64 (m : Int)] 24)).cell? ⟨w.heap.size + 1, 0, none⟩ = some (.int .u32 (b : Int)) := by simp [go_sem]
  have c3 : ((w.alloc (.cells #[.int .u32 (a : Int), .int .i64 (n : Int)] 24)).alloc (.cells #[.int .u32 (b : Int), .int .i64 (m : Int)] 24)).cell? ⟨w.heap.size + 1, 1, none⟩ = some (.int .i64 (m : Int)) := by simp [go_sem]
  have lt1 : w.heap.size < w.heap.size + 1 + 1 := by omega
  go_enter Try.func27, Try.ntmps27
  go_wp2_with (first | (go_at_call 19; refine (rcheck_any _ _ _ ?_).mono ?_; assumption; rintro e w1 ⟨rfl, hb1⟩; have hz1 := hb1.size; (try simp at hz1); have hl10 : w.heap.size < w1.heap.size := (by first | omega | (simp at hz1; omega)); have hl11 : w.heap.size + 1 < w1.heap.size := (by first | omega | (simp at hz1; omega)); have c0 : w1.cell? ⟨w.heap.size, 0, none⟩ = some (.int .u32 (a : Int)) := cell_on hb1 c0; have c1 : w1.cell? ⟨w.heap.size, 1, none⟩ = some (.int .i64 (n : Int)) := cell_on hb1 c1; have c2 : w1.cell? ⟨w.heap.size + 1, 0, none⟩ = some (.int .u32 (b : Int)) := cell_on hb1 c2; have c3 : w1.cell? ⟨w.heap.size + 1, 1, none⟩ = some (.int .i64 (m : Int)) := cell_on hb1 c3) | (go_at_call 23; refine (rwithin_any _ _ _ _ _ ?_ ?_).mono ?_; assumption; assumption; rintro e w1 ⟨rfl, hb1⟩; have hz1 := hb1.size; (try simp at hz1); have hl10 : w.heap.size < w1.heap.size := (by first | omega | (simp at hz1; omega)); have hl11 : w.heap.size + 1 < w1.heap.size := (by first | omega | (simp at hz1; omega)); have c0 : w1.cell? ⟨w.heap.size, 0, none⟩ = some (.int .u32 (a : Int)) := cell_on hb1 c0; have c1 : w1.cell? ⟨w.heap.size, 1, none⟩ = some (.int .i64 (n : Int)) := cell_on hb1 c1; have c2 : w1.cell? ⟨w.heap.size + 1, 0, none⟩ = some (.int .u32 (b : Int)) := cell_on hb1 c2; have c3 : w1.cell? ⟨w.heap.size + 1, 1, none⟩ = some (.int .i64 (m : Int)) := cell_on hb1 c3) | (at_builtin; refine wpList_append_rows (by rfl) (.tmp 27) (.tmp 29) (by rfl) w.heap.size _ [] (by rfl) (Row.nil _ _) w.heap.size _ [(a, n)] (by rfl) (Row.one _ _ a n (by omega)) (by simp; omega) (by simp) ?_; intro v' w7 hrow hgrow))
  go_ret
  exact ⟨_, rfl, hrow, bel_grown (by (repeat (first | assumption | exact Below.refl _ _ | refine Below.drew ?_ | refine bel_drewN ?_ _ | refine Below.setCell ?_ (by first | omega | (simp; done) | (simp; omega)) _ | refine Below.alloc ?_ (by first | omega | (simp; done) | (simp; omega)) _ | refine bel_of ?_ (by assumption)))) (Row.nil _ w.heap.size) hgrow (by simp; omega) (Nat.le_refl _)⟩
set_option maxHeartbeats 4000000 in
theorem rless_step (a n b m a2 n2 : Nat) (w : World) (ha : a < 4294967296) (hb : b < 4294967296) (hn : n < 32) (hn2 : n2 = n + 1) (ha2 : a2 = a + bk (n + 1)) (ka : chk a (n : Int) = 0) (kb : chk b (m : Int) = 0) (k1 : witB a n b m = false) (k2 : witB b m a n = true)
    (L1 L2 : List (Nat × Nat)) (hL : L1.length + L2.length ≤ 4294967296)
    (ih1 : ∀ w, Calls Try.prog 27 #[.agg #[.int .u32 a, .int .i64 n2], .agg #[.int .u32 b, .int .i64 m]] w fun e w' => ∃ v, e = .returned v ∧ Row w' w.heap.size v L1 ∧ Below w.heap.size w w')
    (ih2 : ∀ w, Calls Try.prog 27 #[.agg #[.int .u32 a2, .int .i64 n2], .agg #[.int .u32 b, .int .i64 m]] w fun e w' => ∃ v, e = .returned v ∧ Row w' w.heap.size v L2 ∧ Below w.heap.size w w') :
    Calls Try.prog 27 #[.agg #[.int .u32 a, .int .i64 n], .agg #[.int .u32 b, .int .i64 m]] w fun e w' => ∃ v, e = .returned v ∧ Row w' w.heap.size v (L1 ++ L2) ∧ Below w.heap.size w w' := by
  have c0 : ((w.alloc (.cells #[.int .u32 (a : Int), .int .i64 (n : Int)] 24)).alloc (.cells #[.int .u32 (b : Int), .int .i64 (m : Int)] 24)).cell? ⟨w.heap.size, 0, none⟩ = some (.int .u32 (a : Int)) := by simp [go_sem]
  have c1 : ((w.alloc (.cells #[.int .u32 (a : Int), .int .i64 (n : Int)] 24)).alloc (.cells #[.int .u32 (b : Int), .int .i64 (m : Int)] 24)).cell? ⟨w.heap.size, 1, none⟩ = some (.int .i64 (n : Int)) := by simp [go_sem]
  have c2 : ((w.alloc (.cells #[.int .u32 (a : Int), .int .i64 (n : Int)] 24)).alloc (.cells #[.int .u32 (b : Int), .int .i64 (m : Int)] 24)).cell? ⟨w.heap.size + 1, 0, none⟩ = some (.int .u32 (b : Int)) := by simp [go_sem]
  have c3 : ((w.alloc (.cells #[.int .u32 (a : Int), .int .i64 (n : Int)] 24)).alloc (.cells #[.int .u32 (b : Int), .int .i64 (m : Int)] 24)).cell? ⟨w.heap.size + 1, 1, none⟩ = some (.int .i64 (m : Int)) := by simp [go_sem]
  have HL : Hid (L1.length + L2.length ≤ 4294967296) := hL
  have lt1 : w.heap.size < w.heap.size + 1 + 1 := by omega
  have hhalf : ∀ w1 : World, Calls Try.prog 14 #[.agg #[.int .u32 a, .int .i64 n]] w1 fun e w' => e = .returned (.tuple #[.agg #[.int .u32 a, .int .i64 n2], .agg #[.int .u32 a2, .int .i64 n2], .int .i64 0]) ∧ Below w1.heap.size w1 w' := fun w1 => by
    have e : hE a (n : Int) = 0 := by simp only [hE, ka, if_true]; rw [if_neg (by omega)]
    have := rhalves_any a n w1 ha
    rw [show hA a (n : Int) = a by simp [hA, e], show hB a (n : Int) = a2 by simp [hB, e, ha2], show hN a (n : Int) = (n2 : Int) by simp [hN, e, hn2], e] at this
    exact this
  clear hn2 ha2 hL
  go_enter Try.func27, Try.ntmps27
  go_wp2_with (first | (go_at_call 19; refine (rcheck_any _ _ _ ?_).mono ?_; assumption; rintro e w1 ⟨rfl, hb1⟩; have hz1 := hb1.size; (try simp at hz1); have hl10 : w.heap.size < w1.heap.size := (by first | omega | (simp at hz1; omega)); have hl11 : w.heap.size + 1 < w1.heap.size := (by first | omega | (simp at hz1; omega)); have c0 : w1.cell? ⟨w.heap.size, 0, none⟩ = some (.int .u32 (a : Int)) := cell_on hb1 c0; have c1 : w1.cell? ⟨w.heap.size, 1, none⟩ = some (.int .i64 (n : Int)) := cell_on hb1 c1; have c2 : w1.cell? ⟨w.heap.size + 1, 0, none⟩ = some (.int .u32 (b : Int)) := cell_on hb1 c2; have c3 : w1.cell? ⟨w.heap.size + 1, 1, none⟩ = some (.int .i64 (m : Int)) := cell_on hb1 c3) | (go_at_call 23; refine (rwithin_any _ _ _ _ _ ?_ ?_).mono ?_; assumption; assumption; rintro e w1 ⟨rfl, hb1⟩; have hz1 := hb1.size; (try simp at hz1); have hl10 : w.heap.size < w1.heap.size := (by first | omega | (simp at hz1; omega)); have hl11 : w.heap.size + 1 < w1.heap.size := (by first | omega | (simp at hz1; omega)); have c0 : w1.cell? ⟨w.heap.size, 0, none⟩ = some (.int .u32 (a : Int)) := cell_on hb1 c0; have c1 : w1.cell? ⟨w.heap.size, 1, none⟩ = some (.int .i64 (n : Int)) := cell_on hb1 c1; have c2 : w1.cell? ⟨w.heap.size + 1, 0, none⟩ = some (.int .u32 (b : Int)) := cell_on hb1 c2; have c3 : w1.cell? ⟨w.heap.size + 1, 1, none⟩ = some (.int .i64 (m : Int)) := cell_on hb1 c3) | (go_at_call 14; refine (hhalf _).mono ?_; rintro e w3 ⟨rfl, hb3⟩; have hz3 := hb3.size; have hl30 : w.heap.size < w3.heap.size := (by first | omega | (simp at hz3; omega)); have hl31 : w.heap.size + 1 < w3.heap.size := (by first | omega | (simp at hz3; omega)); have hbw : Below w.heap.size w w3 := (by (repeat (first | assumption | exact Below.refl _ _ | refine Below.drew ?_ | refine bel_drewN ?_ _ | refine Below.setCell ?_ (by first | omega | (simp; done) | (simp; omega)) _ | refine Below.alloc ?_ (by first | omega | (simp; done) | (simp; omega)) _ | refine bel_of ?_ (by assumption)))); have o2 := cell_on hb3 c2; have o3 := cell_on hb3 c3; have z0 : ((w3.alloc (.cells #[.int .u32 (a : Int), .int .i64 (n2 : Int)] 24)).alloc (.cells #[.int .u32 (a2 : Int), .int .i64 (n2 : Int)] 24)).cell? ⟨w3.heap.size, 0, none⟩ = some (.int .u32 (a : Int)) := (by simp [go_sem]); have z1 : ((w3.alloc (.cells #[.int .u32 (a : Int), .int .i64 (n2 : Int)] 24)).alloc (.cells #[.int .u32 (a2 : Int), .int .i64 (n2 : Int)] 24)).cell? ⟨w3.heap.size, 1, none⟩ = some (.int .i64 (n2 : Int)) := (by simp [go_sem]); have z2 : ((w3.alloc (.cells #[.int .u32 (a : Int), .int .i64 (n2 : Int)] 24)).alloc (.cells #[.int .u32 (a2 : Int), .int .i64 (n2 : Int)] 24)).cell? ⟨w3.heap.size + 1, 0, none⟩ = some (.int .u32 (a2 : Int)) := (by simp [go_sem]); have z3 : ((w3.alloc (.cells #[.int .u32 (a : Int), .int .i64 (n2 : Int)] 24)).alloc (.cells #[.int .u32 (a2 : Int), .int .i64 (n2 : Int)] 24)).cell? ⟨w3.heap.size + 1, 1, none⟩ = some (.int .i64 (n2 : Int)) := (by simp [go_sem]); have z4 : ((w3.alloc (.cells #[.int .u32 (a : Int), .int .i64 (n2 : Int)] 24)).alloc (.cells #[.int .u32 (a2 : Int), .int .i64 (n2 : Int)] 24)).cell? ⟨w.heap.size + 1, 0, none⟩ = some (.int .u32 (b : Int)) := cell_alloc (cell_alloc o2); have z5 : ((w3.alloc (.cells #[.int .u32 (a : Int), .int .i64 (n2 : Int)] 24)).alloc (.cells #[.int .u32 (a2 : Int), .int .i64 (n2 : Int)] 24)).cell? ⟨w.heap.size + 1, 1, none⟩ = some (.int .i64 (m : Int)) := cell_alloc (cell_alloc o3)) | (go_at_call_of 27 (Value.agg #[.int .u32 (a : Int), .int .i64 (n2 : Int)]); refine (ih1 _).mono ?_; rintro e w4 ⟨v1, rfl, hr1, hb4⟩; have hz4 := hb4.size; simp at hz4; have y0 : w4.cell? ⟨w3.heap.size, 0, none⟩ = some (.int .u32 (a : Int)) := cell_on hb4 z0; have y1 : w4.cell? ⟨w3.heap.size, 1, none⟩ = some (.int .i64 (n2 : Int)) := cell_on hb4 z1; have y2 : w4.cell? ⟨w3.heap.size + 1, 0, none⟩ = some (.int .u32 (a2 : Int)) := cell_on hb4 z2; have y3 : w4.cell? ⟨w3.heap.size + 1, 1, none⟩ = some (.int .i64 (n2 : Int)) := cell_on hb4 z3; have y4 : w4.cell? ⟨w.heap.size + 1, 0, none⟩ = some (.int .u32 (b : Int)) := cell_on hb4 z4; have y5 : w4.cell? ⟨w.heap.size + 1, 1, none⟩ = some (.int .i64 (m : Int)) := cell_on hb4 z5) | (at_builtin; refine wpList_append_rows (by rfl) (.tmp 37) (.tmp 40) (by rfl) w.heap.size _ [] (by rfl) (Row.nil _ _) _ _ _ (by rfl) hr1 (by omega) (by have := HL.out; simp only [List.length_nil]; omega) ?_; intro vo w5 hro hgo; have hz5 := hgo.size; have x0 : w5.cell? ⟨w3.heap.size, 0, none⟩ = some (.int .u32 (a : Int)) := hgo.cell y0 (by simp [Value.ownBlock]); have x1 : w5.cell? ⟨w3.heap.size, 1, none⟩ = some (.int .i64 (n2 : Int)) := hgo.cell y1 (by simp [Value.ownBlock]); have x2 : w5.cell? ⟨w3.heap.size + 1, 0, none⟩ = some (.int .u32 (a2 : Int)) := hgo.cell y2 (by simp [Value.ownBlock]); have x3 : w5.cell? ⟨w3.heap.size + 1, 1, none⟩ = some (.int .i64 (n2 : Int)) := hgo.cell y3 (by simp [Value.ownBlock]); have x4 : w5.cell? ⟨w.heap.size + 1, 0, none⟩ = some (.int .u32 (b : Int)) := hgo.cell y4 (by simp [Value.ownBlock]); have x5 : w5.cell? ⟨w.heap.size + 1, 1, none⟩ = some (.int .i64 (m : Int)) := hgo.cell y5 (by simp [Value.ownBlock])) | (go_at_call_of 27 (Value.agg #[.int .u32 (a2 : Int), .int .i64 (n2 : Int)]); refine (ih2 _).mono ?_; rintro e w6 ⟨v2, rfl, hr2, hb6⟩; have hz6 := hb6.size) | (at_builtin; refine wpList_append_rows (by rfl) (.tmp 42) (.tmp 45) (by rfl) w.heap.size _ _ (by rfl) (hro.on hb6) _ _ _ (by rfl) hr2 (by omega) (by have := HL.out; simpa using this) ?_; intro v' w7 hrow hgrow))
  go_ret
  refine ⟨_, rfl, hrow, ?_⟩
  have b4 : Below w.heap.size w w4 := by (repeat (first | assumption | exact Below.refl _ _ | refine Below.drew ?_ | refine bel_drewN ?_ _ | refine Below.setCell ?_ (by first | omega | (simp; done) | (simp; omega)) _ | refine Below.alloc ?_ (by first | omega | (simp; done) | (simp; omega)) _ | refine bel_of ?_ (by assumption)))
  have b5 : Below w.heap.size w w5 := bel_grown b4 (Row.nil _ w.heap.size) hgo (by omega) (Nat.le_refl _)
  have b6 : Below w.heap.size w w6 := by (repeat (first | assumption | exact Below.refl _ _ | refine Below.drew ?_ | refine bel_drewN ?_ _ | refine Below.setCell ?_ (by first | omega | (simp; done) | (simp; omega)) _ | refine Below.alloc ?_ (by first | omega | (simp; done) | (simp; omega)) _ | refine bel_of ?_ (by assumption)))
  exact bel_grown b6 (hro.on hb6) hgrow (by omega) (Nat.le_refl _)
theorem rless_valid : ∀ (f a n b m : Nat), f = 32 - n → n ≤ 32 → a < 4294967296 → b < 4294967296 → chk a (n : Int) = 0 → chk b (m : Int) = 0 → ∀ w : World,
    Calls Try.prog 27 #[.agg #[.int .u32 a, .int .i64 n], .agg #[.int .u32 b, .int .i64 m]] w fun e w' => ∃ v, e = .returned v ∧ Row w' w.heap.size v (lessF f a n b m) ∧ Below w.heap.size w w'
  | f, a, n, b, m, hf, hn, ha, hb, ka, kb, w => by
    by_cases k1 : witB a n b m = true
    · rw [show lessF f a n b m = [] by cases f <;> simp [lessF, k1]]
      exact (rless_in a n b m w ha hb ka kb k1).mono fun e w' ⟨he, hbl⟩ => ⟨_, he, Row.nil _ _, hbl⟩
    · have k1' : witB a n b m = false := by simpa using k1
      by_cases k2 : witB b m a n = true
      · match f, hf with
        | 0, hf => exact absurd (wit_32 a n b m (by omega) ka kb k2) k1
        | f + 1, hf =>
          have hn' : n < 32 := by omega
          obtain ⟨m0, e0, _, h0⟩ := chk_ok ka
          obtain rfl : n = m0 := by omega
          have hlo := half_lo a n h0
          have hhi := half_hi a n hn' ha h0
          rw [show lessF (f + 1) a n b m = lessF f a (n + 1) b m ++ lessF f (a + bk (n + 1)) (n + 1) b m by simp [lessF, k1', k2]]
          exact rless_step a n b m (a + bk (n + 1)) (n + 1) w ha hb hn' rfl rfl ka kb k1' k2 _ _ (by
              have h1 := lessF_le f a (n + 1) b m
              have h2 := lessF_le f (a + bk (n + 1)) (n + 1) b m
              have h3 : 2 ^ f ≤ 2 ^ 31 := Nat.pow_le_pow_right (by decide) (by omega)
              omega)
            (rless_valid f a (n + 1) b m (by omega) (by omega) ha hb (chk_in _ _ (by omega) hlo) kb)
            (rless_valid f (a + bk (n + 1)) (n + 1) b m (by omega) (by omega) hhi.1 hb (chk_in _ _ (by omega) hhi.2) kb)
      · have k2' : witB b m a n = false := by simpa using k2
        rw [show lessF f a n b m = [(a, n)] by cases f <;> simp [lessF, k1', k2']]
        exact rless_apart a n b m w ha hb ka kb k1' k2'
theorem rless_any (a : Nat) (n : Int) (b : Nat) (m : Int) (w : World) (ha : a < 4294967296) (hb : b < 4294967296) :
    Calls Try.prog 27 #[.agg #[.int .u32 a, .int .i64 n], .agg #[.int .u32 b, .int .i64 m]] w fun e w' => ∃ v, e = .returned v ∧ Row w' w.heap.size v (lessP a n b m) ∧ Below w.heap.size w w' := by
  by_cases h : chk a n = 0 ∧ chk b m = 0
  · obtain ⟨n', rfl, hn, _⟩ := chk_ok h.1
    obtain ⟨m', rfl, hm, _⟩ := chk_ok h.2
    rw [show lessP a n' b m' = lessF (32 - n') a n' b m' by simp [lessP, h]]
    exact rless_valid (32 - n') a n' b m' rfl hn ha hb h.1 h.2 w
  · rw [show lessP a n b m = [] by simp only [lessP]; rw [if_neg h]]
    have hc : cE a n b m ≠ 0 := by
      unfold cE
      by_cases k : chk a n = 0
      · rw [if_pos k]; exact fun e => h ⟨k, e⟩
      · rw [if_neg k]; exact k
    exact (rless_bad a n b m w ha hb hc).mono fun e w' ⟨he, hbl⟩ => ⟨_, he, Row.nil _ _, hbl⟩
end Go.Proofs.Ytegkkekbgndmpaa
