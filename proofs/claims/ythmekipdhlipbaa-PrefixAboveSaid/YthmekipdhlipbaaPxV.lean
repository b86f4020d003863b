/-
  What Less of package prefix hands back: a list of its own that holds the pieces.
-/
import Derived.Test.YthmekipdhlipbaaPxU
import Derived.Deep.AppendLies
namespace Go.Proofs.Ythmekipdhlipbaa
open Go.RowKit
set_option linter.unusedVariables false
set_option linter.unusedSimpArgs false
attribute [local go_sem ↓] Go.wp_at_zero Go.wp_at_succ

theorem chk_three (a : Nat) (n : Int) : chk a n = 0 ∨ chk a n = 20 ∨ chk a n = 21 := by
  unfold chk; split
  · simp
  · split <;> simp
set_option maxHeartbeats 2000000 in
theorem less_bad (a : Nat) (n : Int) (b : Nat) (m : Int) (w : World) (ha : a < 4294967296) (hb : b < 4294967296) (h : cE a n b m ≠ 0) :
    Calls Try.prog 41 #[.agg #[.int .u32 a, .int .i64 n], .agg #[.int .u32 b, .int .i64 m]] w fun e w' => e = .returned (.slice none 0 0) ∧ Below w.heap.size w w' := by
  have h3 : chk a n = 0 ∨ chk a n = 20 ∨ chk a n = 21 := chk_three a n
  have h4 : chk b m = 0 ∨ chk b m = 20 ∨ chk b m = 21 := chk_three b m
  have lt1 : w.heap.size < w.heap.size + 1 + 1 := by omega
  have h5 : orI (chk a n) (chk b m) = 20 ∨ orI (chk a n) (chk b m) = 21 := by
    have e : cE a n b m = orI (chk a n) (chk b m) := rfl
    rw [e] at h
    unfold orI at *
    by_cases k : chk a n = 0
    · rw [if_pos k] at *; omega
    · rw [if_neg k] at *; omega
  clear h h3 h4
  rcases h5 with ho | ho
  · go_enter Try.func41, Try.ntmps41
    go_wp2
    go_region_with (first | (go_at_call 38; refine (check_any _ _ _ ?_).mono ?_; assumption; rintro e w1 ⟨rfl, hb1⟩; obtain ⟨hc1, hf1⟩ := bcell hb1; have hz1 := hb1.size; (try simp at hz1); have hl10 : w.heap.size < w1.heap.size := (by first | omega | (simp at hz1; omega)); have hl11 : w.heap.size + 1 < w1.heap.size := (by first | omega | (simp at hz1; omega)); have q0 : w1.cell? ⟨w.heap.size, 0, none⟩ = some (.int .u32 (a : Int)) := (by rw [hc1 _ _ (by first | omega | (simp <;> omega))]; simp [go_sem, *]); have q1 : w1.cell? ⟨w.heap.size, 1, none⟩ = some (.int .i64 n) := (by rw [hc1 _ _ (by first | omega | (simp <;> omega))]; simp [go_sem, *]); have q2 : w1.cell? ⟨w.heap.size + 1, 0, none⟩ = some (.int .u32 (b : Int)) := (by rw [hc1 _ _ (by first | omega | (simp <;> omega))]; simp [go_sem, *]); have q3 : w1.cell? ⟨w.heap.size + 1, 1, none⟩ = some (.int .i64 m) := (by rw [hc1 _ _ (by first | omega | (simp <;> omega))]; simp [go_sem, *])) | (go_at_call 56; refine (orE_any (chk a n) (chk b m) _ _ ?_ ?_).mono ?_; (simp [go_sem]); (simp [go_sem]); rintro e w' ⟨rfl, hw⟩; obtain rfl := hw.symm; clear hw))
    all_goals
      go_wp2
      go_ret
      exact ⟨rfl, by (repeat (first | assumption | exact Below.refl _ _ | refine Below.drew ?_ | refine bel_drewN ?_ _ | refine Below.setCell ?_ (by first | omega | (simp; done) | (simp; omega)) _ | refine Below.alloc ?_ (by first | omega | (simp; done) | (simp; omega)) _ | refine bel_of ?_ (by assumption)))⟩
  · go_enter Try.func41, Try.ntmps41
    go_wp2
    go_region_with (first | (go_at_call 38; refine (check_any _ _ _ ?_).mono ?_; assumption; rintro e w1 ⟨rfl, hb1⟩; obtain ⟨hc1, hf1⟩ := bcell hb1; have hz1 := hb1.size; (try simp at hz1); have hl10 : w.heap.size < w1.heap.size := (by first | omega | (simp at hz1; omega)); have hl11 : w.heap.size + 1 < w1.heap.size := (by first | omega | (simp at hz1; omega)); have q0 : w1.cell? ⟨w.heap.size, 0, none⟩ = some (.int .u32 (a : Int)) := (by rw [hc1 _ _ (by first | omega | (simp <;> omega))]; simp [go_sem, *]); have q1 : w1.cell? ⟨w.heap.size, 1, none⟩ = some (.int .i64 n) := (by rw [hc1 _ _ (by first | omega | (simp <;> omega))]; simp [go_sem, *]); have q2 : w1.cell? ⟨w.heap.size + 1, 0, none⟩ = some (.int .u32 (b : Int)) := (by rw [hc1 _ _ (by first | omega | (simp <;> omega))]; simp [go_sem, *]); have q3 : w1.cell? ⟨w.heap.size + 1, 1, none⟩ = some (.int .i64 m) := (by rw [hc1 _ _ (by first | omega | (simp <;> omega))]; simp [go_sem, *])) | (go_at_call 56; refine (orE_any (chk a n) (chk b m) _ _ ?_ ?_).mono ?_; (simp [go_sem]); (simp [go_sem]); rintro e w' ⟨rfl, hw⟩; obtain rfl := hw.symm; clear hw))
    all_goals
      go_wp2
      go_ret
      exact ⟨rfl, by (repeat (first | assumption | exact Below.refl _ _ | refine Below.drew ?_ | refine bel_drewN ?_ _ | refine Below.setCell ?_ (by first | omega | (simp; done) | (simp; omega)) _ | refine Below.alloc ?_ (by first | omega | (simp; done) | (simp; omega)) _ | refine bel_of ?_ (by assumption)))⟩
set_option maxHeartbeats 2000000 in
theorem less_in (a n b m : Nat) (w : World) (ha : a < 4294967296) (hb : b < 4294967296) (ka : chk a (n : Int) = 0) (kb : chk b (m : Int) = 0) (k1 : witB a n b m = true) :
    Calls Try.prog 41 #[.agg #[.int .u32 a, .int .i64 n], .agg #[.int .u32 b, .int .i64 m]] w fun e w' => e = .returned (.slice none 0 0) ∧ Below w.heap.size w w' := by
  have ho : orI 0 0 = 0 := rfl
  have lt1 : w.heap.size < w.heap.size + 1 + 1 := by omega
  go_enter Try.func41, Try.ntmps41
  go_wp2
  go_region_held3 (fun w' => w'.cell? ⟨w.heap.size, 0, none⟩ = some (.int .u32 (a : Int)) ∧ w'.cell? ⟨w.heap.size, 1, none⟩ = some (.int .i64 (n : Int)) ∧ w'.cell? ⟨w.heap.size + 1, 0, none⟩ = some (.int .u32 (b : Int)) ∧ w'.cell? ⟨w.heap.size + 1, 1, none⟩ = some (.int .i64 (m : Int))) (first | exact ⟨q0, q1, q2, q3⟩ | go_keep) (first | (go_at_call 38; refine (check_any _ _ _ ?_).mono ?_; assumption; rintro e w1 ⟨rfl, hb1⟩; obtain ⟨hc1, hf1⟩ := bcell hb1; have hz1 := hb1.size; (try simp at hz1); have hl10 : w.heap.size < w1.heap.size := (by first | omega | (simp at hz1; omega)); have hl11 : w.heap.size + 1 < w1.heap.size := (by first | omega | (simp at hz1; omega)); have q0 : w1.cell? ⟨w.heap.size, 0, none⟩ = some (.int .u32 (a : Int)) := (by rw [hc1 _ _ (by first | omega | (simp <;> omega))]; simp [go_sem, *]); have q1 : w1.cell? ⟨w.heap.size, 1, none⟩ = some (.int .i64 (n : Int)) := (by rw [hc1 _ _ (by first | omega | (simp <;> omega))]; simp [go_sem, *]); have q2 : w1.cell? ⟨w.heap.size + 1, 0, none⟩ = some (.int .u32 (b : Int)) := (by rw [hc1 _ _ (by first | omega | (simp <;> omega))]; simp [go_sem, *]); have q3 : w1.cell? ⟨w.heap.size + 1, 1, none⟩ = some (.int .i64 (m : Int)) := (by rw [hc1 _ _ (by first | omega | (simp <;> omega))]; simp [go_sem, *])) | (go_at_call 56; refine (orE_any 0 0 _ _ ?_ ?_).mono ?_; (simp [go_sem]); (simp [go_sem]); rintro e w' ⟨rfl, hw⟩; obtain rfl := hw.symm; clear hw) | (go_at_call 16; refine (within_any a (n : Int) b (m : Int) _ ha hb).mono ?_; rintro e w1 ⟨rfl, hb1⟩; obtain ⟨hc1, hf1⟩ := bcell hb1; have hz1 := hb1.size; (try simp at hz1); have hl10 : w.heap.size < w1.heap.size := (by first | omega | (simp at hz1; omega)); have hl11 : w.heap.size + 1 < w1.heap.size := (by first | omega | (simp at hz1; omega)); have q0 : w1.cell? ⟨w.heap.size, 0, none⟩ = some (.int .u32 (a : Int)) := (by rw [hc1 _ _ (by first | omega | (simp <;> omega))]; simp [go_sem, *]); have q1 : w1.cell? ⟨w.heap.size, 1, none⟩ = some (.int .i64 (n : Int)) := (by rw [hc1 _ _ (by first | omega | (simp <;> omega))]; simp [go_sem, *]); have q2 : w1.cell? ⟨w.heap.size + 1, 0, none⟩ = some (.int .u32 (b : Int)) := (by rw [hc1 _ _ (by first | omega | (simp <;> omega))]; simp [go_sem, *]); have q3 : w1.cell? ⟨w.heap.size + 1, 1, none⟩ = some (.int .i64 (m : Int)) := (by rw [hc1 _ _ (by first | omega | (simp <;> omega))]; simp [go_sem, *])))
  all_goals
    go_wp2
    go_ret
    exact ⟨rfl, by (repeat (first | assumption | exact Below.refl _ _ | refine Below.drew ?_ | refine bel_drewN ?_ _ | refine Below.setCell ?_ (by first | omega | (simp; done) | (simp; omega)) _ | refine Below.alloc ?_ (by first | omega | (simp; done) | (simp; omega)) _ | refine bel_of ?_ (by assumption)))⟩
set_option maxHeartbeats 2000000 in
theorem less_apart (a n b m : Nat) (w : World) (ha : a < 4294967296) (hb : b < 4294967296) (ka : chk a (n : Int) = 0) (kb : chk b (m : Int) = 0) (k1 : witB a n b m = false) (k2 : witB b m a n = false) :
    Calls Try.prog 41 #[.agg #[.int .u32 a, .int .i64 n], .agg #[.int .u32 b, .int .i64 m]] w fun e w' => ∃ v, e = .returned v ∧ Row w' w.heap.size v [(a, n)] ∧ Below w.heap.size w w' := by
  have ho : orI 0 0 = 0 := rfl
  have lt1 : w.heap.size < w.heap.size + 1 + 1 := by omega
  go_enter Try.func41, Try.ntmps41
  go_wp2
  go_region_held3 (fun w' => w'.cell? ⟨w.heap.size, 0, none⟩ = some (.int .u32 (a : Int)) ∧ w'.cell? ⟨w.heap.size, 1, none⟩ = some (.int .i64 (n : Int)) ∧ w'.cell? ⟨w.heap.size + 1, 0, none⟩ = some (.int .u32 (b : Int)) ∧ w'.cell? ⟨w.heap.size + 1, 1, none⟩ = some (.int .i64 (m : Int))) (first | exact ⟨q0, q1, q2, q3⟩ | go_keep) (first | (go_at_call 38; refine (check_any _ _ _ ?_).mono ?_; assumption; rintro e w1 ⟨rfl, hb1⟩; obtain ⟨hc1, hf1⟩ := bcell hb1; have hz1 := hb1.size; (try simp at hz1); have hl10 : w.heap.size < w1.heap.size := (by first | omega | (simp at hz1; omega)); have hl11 : w.heap.size + 1 < w1.heap.size := (by first | omega | (simp at hz1; omega)); have q0 : w1.cell? ⟨w.heap.size, 0, none⟩ = some (.int .u32 (a : Int)) := (by rw [hc1 _ _ (by first | omega | (simp <;> omega))]; simp [go_sem, *]); have q1 : w1.cell? ⟨w.heap.size, 1, none⟩ = some (.int .i64 (n : Int)) := (by rw [hc1 _ _ (by first | omega | (simp <;> omega))]; simp [go_sem, *]); have q2 : w1.cell? ⟨w.heap.size + 1, 0, none⟩ = some (.int .u32 (b : Int)) := (by rw [hc1 _ _ (by first | omega | (simp <;> omega))]; simp [go_sem, *]); have q3 : w1.cell? ⟨w.heap.size + 1, 1, none⟩ = some (.int .i64 (m : Int)) := (by rw [hc1 _ _ (by first | omega | (simp <;> omega))]; simp [go_sem, *])) | (go_at_call 56; refine (orE_any 0 0 _ _ ?_ ?_).mono ?_; (simp [go_sem]); (simp [go_sem]); rintro e w' ⟨rfl, hw⟩; obtain rfl := hw.symm; clear hw) | (go_at_call 16; refine (within_any a (n : Int) b (m : Int) _ ha hb).mono ?_; rintro e w1 ⟨rfl, hb1⟩; obtain ⟨hc1, hf1⟩ := bcell hb1; have hz1 := hb1.size; (try simp at hz1); have hl10 : w.heap.size < w1.heap.size := (by first | omega | (simp at hz1; omega)); have hl11 : w.heap.size + 1 < w1.heap.size := (by first | omega | (simp at hz1; omega)); have q0 : w1.cell? ⟨w.heap.size, 0, none⟩ = some (.int .u32 (a : Int)) := (by rw [hc1 _ _ (by first | omega | (simp <;> omega))]; simp [go_sem, *]); have q1 : w1.cell? ⟨w.heap.size, 1, none⟩ = some (.int .i64 (n : Int)) := (by rw [hc1 _ _ (by first | omega | (simp <;> omega))]; simp [go_sem, *]); have q2 : w1.cell? ⟨w.heap.size + 1, 0, none⟩ = some (.int .u32 (b : Int)) := (by rw [hc1 _ _ (by first | omega | (simp <;> omega))]; simp [go_sem, *]); have q3 : w1.cell? ⟨w.heap.size + 1, 1, none⟩ = some (.int .i64 (m : Int)) := (by rw [hc1 _ _ (by first | omega | (simp <;> omega))]; simp [go_sem, *])))
  all_goals
    go_wp2_with (go_at_call 16; refine (within_any b m a n _ hb ha).mono ?_; rintro e w2 ⟨rfl, hb2⟩; have hz2 := hb2.size; have p0 : w2.cell? ⟨w.heap.size, 0, none⟩ = some (.int .u32 (a : Int)) := cell_on hb2 q0; have p1 : w2.cell? ⟨w.heap.size, 1, none⟩ = some (.int .i64 (n : Int)) := cell_on hb2 q1; have p2 : w2.cell? ⟨w.heap.size + 1, 0, none⟩ = some (.int .u32 (b : Int)) := cell_on hb2 q2; have p3 : w2.cell? ⟨w.heap.size + 1, 1, none⟩ = some (.int .i64 (m : Int)) := cell_on hb2 q3)
    go_ret
    exact ⟨_, rfl, Row.one w2 _ a n (by omega), by (repeat (first | assumption | exact Below.refl _ _ | refine Below.drew ?_ | refine bel_drewN ?_ _ | refine Below.setCell ?_ (by first | omega | (simp; done) | (simp; omega)) _ | refine Below.alloc ?_ (by first | omega | (simp; done) | (simp; omega)) _ | refine bel_of ?_ (by assumption)))⟩
set_option maxHeartbeats 4000000 in
theorem less_step (a n b m a2 n2 : Nat) (w : World) (ha : a < 4294967296) (hb : b < 4294967296) (hn : n < 32) (hn2 : n2 = n + 1) (ha2 : a2 = a + bk (n + 1)) (ka : chk a (n : Int) = 0) (kb : chk b (m : Int) = 0) (k1 : witB a n b m = false) (k2 : witB b m a n = true)
    (L1 L2 : List (Nat × Nat)) (hL : L1.length + L2.length ≤ 4294967296)
    (ih1 : ∀ w, Calls Try.prog 41 #[.agg #[.int .u32 a, .int .i64 n2], .agg #[.int .u32 b, .int .i64 m]] w fun e w' => ∃ v, e = .returned v ∧ Row w' w.heap.size v L1 ∧ Below w.heap.size w w')
    (ih2 : ∀ w, Calls Try.prog 41 #[.agg #[.int .u32 a2, .int .i64 n2], .agg #[.int .u32 b, .int .i64 m]] w fun e w' => ∃ v, e = .returned v ∧ Row w' w.heap.size v L2 ∧ Below w.heap.size w w') :
    Calls Try.prog 41 #[.agg #[.int .u32 a, .int .i64 n], .agg #[.int .u32 b, .int .i64 m]] w fun e w' => ∃ v, e = .returned v ∧ Row w' w.heap.size v (L1 ++ L2) ∧ Below w.heap.size w w' := by
  have ho : orI 0 0 = 0 := rfl
  have HL : Hid (L1.length + L2.length ≤ 4294967296) := hL
  have lt1 : w.heap.size < w.heap.size + 1 + 1 := by omega
  have hhalf : ∀ w1 : World, Calls Try.prog 13 #[.agg #[.int .u32 a, .int .i64 n]] w1 fun e w' => e = .returned (.tuple #[.agg #[.int .u32 a, .int .i64 n2], .agg #[.int .u32 a2, .int .i64 n2], .int .i64 0]) ∧ Below w1.heap.size w1 w' := fun w1 => by
    have e : hE a (n : Int) = 0 := by simp only [hE, ka, if_true]; rw [if_neg (by omega)]
    have := halves_any a n w1 ha
    rw [show hA a (n : Int) = a by simp [hA, e], show hB a (n : Int) = a2 by simp [hB, e, ha2], show hN a (n : Int) = (n2 : Int) by simp [hN, e, hn2], e] at this
    exact this
  clear hn2 ha2 hL
  go_enter Try.func41, Try.ntmps41
  go_wp2
  go_region_held3 (fun w' => w'.cell? ⟨w.heap.size, 0, none⟩ = some (.int .u32 (a : Int)) ∧ w'.cell? ⟨w.heap.size, 1, none⟩ = some (.int .i64 (n : Int)) ∧ w'.cell? ⟨w.heap.size + 1, 0, none⟩ = some (.int .u32 (b : Int)) ∧ w'.cell? ⟨w.heap.size + 1, 1, none⟩ = some (.int .i64 (m : Int))) (first | exact ⟨q0, q1, q2, q3⟩ | go_keep) (first | (go_at_call 38; refine (check_any _ _ _ ?_).mono ?_; assumption; rintro e w1 ⟨rfl, hb1⟩; obtain ⟨hc1, hf1⟩ := bcell hb1; have hz1 := hb1.size; (try simp at hz1); have hl10 : w.heap.size < w1.heap.size := (by first | omega | (simp at hz1; omega)); have hl11 : w.heap.size + 1 < w1.heap.size := (by first | omega | (simp at hz1; omega)); have q0 : w1.cell? ⟨w.heap.size, 0, none⟩ = some (.int .u32 (a : Int)) := (by rw [hc1 _ _ (by first | omega | (simp <;> omega))]; simp [go_sem, *]); have q1 : w1.cell? ⟨w.heap.size, 1, none⟩ = some (.int .i64 (n : Int)) := (by rw [hc1 _ _ (by first | omega | (simp <;> omega))]; simp [go_sem, *]); have q2 : w1.cell? ⟨w.heap.size + 1, 0, none⟩ = some (.int .u32 (b : Int)) := (by rw [hc1 _ _ (by first | omega | (simp <;> omega))]; simp [go_sem, *]); have q3 : w1.cell? ⟨w.heap.size + 1, 1, none⟩ = some (.int .i64 (m : Int)) := (by rw [hc1 _ _ (by first | omega | (simp <;> omega))]; simp [go_sem, *])) | (go_at_call 56; refine (orE_any 0 0 _ _ ?_ ?_).mono ?_; (simp [go_sem]); (simp [go_sem]); rintro e w' ⟨rfl, hw⟩; obtain rfl := hw.symm; clear hw) | (go_at_call 16; refine (within_any a (n : Int) b (m : Int) _ ha hb).mono ?_; rintro e w1 ⟨rfl, hb1⟩; obtain ⟨hc1, hf1⟩ := bcell hb1; have hz1 := hb1.size; (try simp at hz1); have hl10 : w.heap.size < w1.heap.size := (by first | omega | (simp at hz1; omega)); have hl11 : w.heap.size + 1 < w1.heap.size := (by first | omega | (simp at hz1; omega)); have q0 : w1.cell? ⟨w.heap.size, 0, none⟩ = some (.int .u32 (a : Int)) := (by rw [hc1 _ _ (by first | omega | (simp <;> omega))]; simp [go_sem, *]); have q1 : w1.cell? ⟨w.heap.size, 1, none⟩ = some (.int .i64 (n : Int)) := (by rw [hc1 _ _ (by first | omega | (simp <;> omega))]; simp [go_sem, *]); have q2 : w1.cell? ⟨w.heap.size + 1, 0, none⟩ = some (.int .u32 (b : Int)) := (by rw [hc1 _ _ (by first | omega | (simp <;> omega))]; simp [go_sem, *]); have q3 : w1.cell? ⟨w.heap.size + 1, 1, none⟩ = some (.int .i64 (m : Int)) := (by rw [hc1 _ _ (by first | omega | (simp <;> omega))]; simp [go_sem, *])))
  go_wp2_with (first | (go_at_call 16; refine (within_any b m a n _ hb ha).mono ?_; rintro e w2 ⟨rfl, hb2⟩; have hz2 := hb2.size; have hl20 : w.heap.size < w2.heap.size := (by first | omega | (simp at hz2; omega)); have hl21 : w.heap.size + 1 < w2.heap.size := (by first | omega | (simp at hz2; omega)); have p0 : w2.cell? ⟨w.heap.size, 0, none⟩ = some (.int .u32 (a : Int)) := cell_on hb2 q0; have p1 : w2.cell? ⟨w.heap.size, 1, none⟩ = some (.int .i64 (n : Int)) := cell_on hb2 q1; have p2 : w2.cell? ⟨w.heap.size + 1, 0, none⟩ = some (.int .u32 (b : Int)) := cell_on hb2 q2; have p3 : w2.cell? ⟨w.heap.size + 1, 1, none⟩ = some (.int .i64 (m : Int)) := cell_on hb2 q3) | (go_at_call 13; refine (hhalf _).mono ?_; rintro e w3 ⟨rfl, hb3⟩; have hz3 := hb3.size; have hl30 : w.heap.size < w3.heap.size := (by first | omega | (simp at hz3; omega)); have hl31 : w.heap.size + 1 < w3.heap.size := (by first | omega | (simp at hz3; omega)); have o2 : w3.cell? ⟨w.heap.size + 1, 0, none⟩ = some (.int .u32 (b : Int)) := cell_on hb3 p2; have o3 : w3.cell? ⟨w.heap.size + 1, 1, none⟩ = some (.int .i64 (m : Int)) := cell_on hb3 p3))
  have z0 : ((w3.alloc (.cells #[.int .u32 (a : Int), .int .i64 (n2 : Int)] 24)).alloc (.cells #[.int .u32 (a2 : Int), .int .i64 (n2 : Int)] 24)).cell? ⟨w3.heap.size, 0, none⟩ = some (.int .u32 (a : Int)) := by simp [go_sem]
  have z1 : ((w3.alloc (.cells #[.int .u32 (a : Int), .int .i64 (n2 : Int)] 24)).alloc (.cells #[.int .u32 (a2 : Int), .int .i64 (n2 : Int)] 24)).cell? ⟨w3.heap.size, 1, none⟩ = some (.int .i64 (n2 : Int)) := by simp [go_sem]
  have z2 : ((w3.alloc (.cells #[.int .u32 (a : Int), .int .i64 (n2 : Int)] 24)).alloc (.cells #[.int .u32 (a2 : Int), .int .i64 (n2 : Int)] 24)).cell? ⟨w3.heap.size + 1, 0, none⟩ = some (.int .u32 (a2 : Int)) := by simp [go_sem]
  have z3 : ((w3.alloc (.cells #[.int .u32 (a : Int), .int .i64 (n2 : Int)] 24)).alloc (.cells #[.int .u32 (a2 : Int), .int .i64 (n2 : Int)] 24)).cell? ⟨w3.heap.size + 1, 1, none⟩ = some (.int .i64 (n2 : Int)) := by simp [go_sem]
  have z4 : ((w3.alloc (.cells #[.int .u32 (a : Int), .int .i64 (n2 : Int)] 24)).alloc (.cells #[.int .u32 (a2 : Int), .int .i64 (n2 : Int)] 24)).cell? ⟨w.heap.size + 1, 0, none⟩ = some (.int .u32 (b : Int)) := cell_alloc (cell_alloc o2)
  have z5 : ((w3.alloc (.cells #[.int .u32 (a : Int), .int .i64 (n2 : Int)] 24)).alloc (.cells #[.int .u32 (a2 : Int), .int .i64 (n2 : Int)] 24)).cell? ⟨w.heap.size + 1, 1, none⟩ = some (.int .i64 (m : Int)) := cell_alloc (cell_alloc o3)
  have hbw : Below w.heap.size w w3 := by (repeat (first | assumption | exact Below.refl _ _ | refine Below.drew ?_ | refine bel_drewN ?_ _ | refine Below.setCell ?_ (by first | omega | (simp; done) | (simp; omega)) _ | refine Below.alloc ?_ (by first | omega | (simp; done) | (simp; omega)) _ | refine bel_of ?_ (by assumption)))
  clear hc1 hf1 hb1 hb2 hb3 q0 q1 q2 q3 p0 p1 p2 p3
  go_region_held3 (fun w' => w'.cell? ⟨w3.heap.size, 0, none⟩ = some (.int .u32 (a : Int)) ∧ w'.cell? ⟨w3.heap.size, 1, none⟩ = some (.int .i64 (n2 : Int)) ∧ w'.cell? ⟨w3.heap.size + 1, 0, none⟩ = some (.int .u32 (a2 : Int)) ∧ w'.cell? ⟨w3.heap.size + 1, 1, none⟩ = some (.int .i64 (n2 : Int)) ∧ w'.cell? ⟨w.heap.size + 1, 0, none⟩ = some (.int .u32 (b : Int)) ∧ w'.cell? ⟨w.heap.size + 1, 1, none⟩ = some (.int .i64 (m : Int))) (first | exact ⟨z0, z1, z2, z3, z4, z5⟩ | exact ⟨y0, y1, y2, y3, y4, y5⟩ | exact ⟨x0, x1, x2, x3, x4, x5⟩ | exact ⟨u0, u1, u2, u3, u4, u5⟩ | go_keep) (first | (go_at_call_of 41 (Value.agg #[.int .u32 (a : Int), .int .i64 (n2 : Int)]); refine (ih1 _).mono ?_; rintro e w4 ⟨v1, rfl, hr1, hb4⟩; have hz4 := hb4.size; simp at hz4; have y0 : w4.cell? ⟨w3.heap.size, 0, none⟩ = some (.int .u32 (a : Int)) := cell_on hb4 z0; have y1 : w4.cell? ⟨w3.heap.size, 1, none⟩ = some (.int .i64 (n2 : Int)) := cell_on hb4 z1; have y2 : w4.cell? ⟨w3.heap.size + 1, 0, none⟩ = some (.int .u32 (a2 : Int)) := cell_on hb4 z2; have y3 : w4.cell? ⟨w3.heap.size + 1, 1, none⟩ = some (.int .i64 (n2 : Int)) := cell_on hb4 z3; have y4 : w4.cell? ⟨w.heap.size + 1, 0, none⟩ = some (.int .u32 (b : Int)) := cell_on hb4 z4; have y5 : w4.cell? ⟨w.heap.size + 1, 1, none⟩ = some (.int .i64 (m : Int)) := cell_on hb4 z5) | (go_at_call_of 41 (Value.agg #[.int .u32 (a2 : Int), .int .i64 (n2 : Int)]); refine (ih2 _).mono ?_; rintro e w5 ⟨v2, rfl, hr2, hb5⟩; have hz5 := hb5.size; have x0 : w5.cell? ⟨w3.heap.size, 0, none⟩ = some (.int .u32 (a : Int)) := cell_on hb5 y0; have x1 : w5.cell? ⟨w3.heap.size, 1, none⟩ = some (.int .i64 (n2 : Int)) := cell_on hb5 y1; have x2 : w5.cell? ⟨w3.heap.size + 1, 0, none⟩ = some (.int .u32 (a2 : Int)) := cell_on hb5 y2; have x3 : w5.cell? ⟨w3.heap.size + 1, 1, none⟩ = some (.int .i64 (n2 : Int)) := cell_on hb5 y3; have x4 : w5.cell? ⟨w.heap.size + 1, 0, none⟩ = some (.int .u32 (b : Int)) := cell_on hb5 y4; have x5 : w5.cell? ⟨w.heap.size + 1, 1, none⟩ = some (.int .i64 (m : Int)) := cell_on hb5 y5; have R1 := (hr1.on hb5).base (b' := w.heap.size) (by simp; omega); have R2 := hr2; have hbs : w.heap.size ≤ w5.heap.size := (by omega)) | ((refine step_append_rows (by rfl) _ _ (by rfl) w.heap.size _ _ (by rfl) R1 _ _ _ (by rfl) R2 hbs HL.out ?_; intro v' w6 hrow hgrow; have u0 : w6.cell? ⟨w3.heap.size, 0, none⟩ = some (.int .u32 (a : Int)) := hgrow.cell x0 (fun e => by have h1 := (hr1.lt _ e.symm).1; simp at h1; omega); have u1 : w6.cell? ⟨w3.heap.size, 1, none⟩ = some (.int .i64 (n2 : Int)) := hgrow.cell x1 (fun e => by have h1 := (hr1.lt _ e.symm).1; simp at h1; omega); have u2 : w6.cell? ⟨w3.heap.size + 1, 0, none⟩ = some (.int .u32 (a2 : Int)) := hgrow.cell x2 (fun e => by have h1 := (hr1.lt _ e.symm).1; simp at h1; omega); have u3 : w6.cell? ⟨w3.heap.size + 1, 1, none⟩ = some (.int .i64 (n2 : Int)) := hgrow.cell x3 (fun e => by have h1 := (hr1.lt _ e.symm).1; simp at h1; omega); have u4 : w6.cell? ⟨w.heap.size + 1, 0, none⟩ = some (.int .u32 (b : Int)) := hgrow.cell x4 (fun e => by have h1 := (hr1.lt _ e.symm).1; simp at h1; omega); have u5 : w6.cell? ⟨w.heap.size + 1, 1, none⟩ = some (.int .i64 (m : Int)) := hgrow.cell x5 (fun e => by have h1 := (hr1.lt _ e.symm).1; simp at h1; omega))))
  all_goals
    go_wp2
    go_ret
    exact ⟨_, rfl, hrow, bel_grown (by (repeat (first | assumption | exact Below.refl _ _ | refine Below.drew ?_ | refine bel_drewN ?_ _ | refine Below.setCell ?_ (by first | omega | (simp; done) | (simp; omega)) _ | refine Below.alloc ?_ (by first | omega | (simp; done) | (simp; omega)) _ | refine bel_of ?_ (by assumption)))) R1 hgrow hbs (Nat.le_refl _)⟩
theorem less_valid : ∀ (f a n b m : Nat), f = 32 - n → n ≤ 32 → a < 4294967296 → b < 4294967296 → chk a (n : Int) = 0 → chk b (m : Int) = 0 → ∀ w : World,
    Calls Try.prog 41 #[.agg #[.int .u32 a, .int .i64 n], .agg #[.int .u32 b, .int .i64 m]] w fun e w' => ∃ v, e = .returned v ∧ Row w' w.heap.size v (lessF f a n b m) ∧ Below w.heap.size w w'
  | f, a, n, b, m, hf, hn, ha, hb, ka, kb, w => by
    by_cases k1 : witB a n b m = true
    · rw [show lessF f a n b m = [] by cases f <;> simp [lessF, k1]]
      exact (less_in a n b m w ha hb ka kb k1).mono fun e w' ⟨he, hbl⟩ => ⟨_, he, Row.nil _ _, hbl⟩
    · have k1' : witB a n b m = false := by simpa using k1
      by_cases k2 : witB b m a n = true
      · match f, hf with
        | 0, hf => exact absurd (wit_32 a n b m (by omega) ka kb k2) k1
        | f + 1, hf =>
          have hn' : n < 32 := by omega
          obtain ⟨m0, e0, _, h0⟩ := chk_ok ka
          obtain rfl : n = m0 := by omega
          have hlo := half_lo a n h0
          have hhi := half_hi a n hn' ha h0
          rw [show lessF (f + 1) a n b m = lessF f a (n + 1) b m ++ lessF f (a + bk (n + 1)) (n + 1) b m by simp [lessF, k1', k2]]
          exact less_step a n b m (a + bk (n + 1)) (n + 1) w ha hb hn' rfl rfl ka kb k1' k2 _ _ (by
              have h1 := lessF_le f a (n + 1) b m
              have h2 := lessF_le f (a + bk (n + 1)) (n + 1) b m
              have h3 : 2 ^ f ≤ 2 ^ 31 := Nat.pow_le_pow_right (by decide) (by omega)
              omega)
            (less_valid f a (n + 1) b m (by omega) (by omega) ha hb (chk_in _ _ (by omega) hlo) kb)
            (less_valid f (a + bk (n + 1)) (n + 1) b m (by omega) (by omega) hhi.1 hb (chk_in _ _ (by omega) hhi.2) kb)
      · have k2' : witB b m a n = false := by simpa using k2
        rw [show lessF f a n b m = [(a, n)] by cases f <;> simp [lessF, k1', k2']]
        exact less_apart a n b m w ha hb ka kb k1' k2'
theorem less_any (a : Nat) (n : Int) (b : Nat) (m : Int) (w : World) (ha : a < 4294967296) (hb : b < 4294967296) :
    Calls Try.prog 41 #[.agg #[.int .u32 a, .int .i64 n], .agg #[.int .u32 b, .int .i64 m]] w fun e w' => ∃ v, e = .returned v ∧ Row w' w.heap.size v (lessP a n b m) ∧ Below w.heap.size w w' := by
  by_cases h : chk a n = 0 ∧ chk b m = 0
  · obtain ⟨n', rfl, hn, _⟩ := chk_ok h.1
    obtain ⟨m', rfl, hm, _⟩ := chk_ok h.2
    rw [show lessP a n' b m' = lessF (32 - n') a n' b m' by simp [lessP, h]]
    exact less_valid (32 - n') a n' b m' rfl hn ha hb h.1 h.2 w
  · rw [show lessP a n b m = [] by simp only [lessP]; rw [if_neg h]]
    have hc : cE a n b m ≠ 0 := by
      unfold cE
      by_cases k : chk a n = 0
      · rw [if_pos k]; exact fun e => h ⟨k, e⟩
      · rw [if_neg k]; exact k
    exact (less_bad a n b m w ha hb hc).mono fun e w' ⟨he, hbl⟩ => ⟨_, he, Row.nil _ _, hbl⟩
end Go.Proofs.Ythmekipdhlipbaa
