/-
  Of, Run, Has, Within, Halves of package prefix.
-/
import Derived.Test.YtgidohnikggjfaaGreatPxA
import Derived.Deep.RegionHeld3
import Derived.Deep.DrawnRows
namespace Go.Proofs.YtgidohnikggjfaaGreat.Pf
open Go.RowKit
set_option linter.unusedVariables false
set_option linter.unusedSimpArgs false
attribute [local go_sem ↓] Go.wp_at_zero Go.wp_at_succ

theorem has_any (a : Nat) (n : Int) (x : Nat) (w : World) (ha : a < 4294967296) (hx : x < 4294967296) :
    Calls Tryz.prog 57 #[.agg #[.int .u32 a, .int .i64 n], .int .u32 x] w fun e w' => e = .returned (.bool (hasB a n x)) ∧ Below w.heap.size w w' := by
  by_cases h : chk a n = 0
  · obtain ⟨m, rfl, hn, h0⟩ := chk_ok h
    rw [hasB_in h]
    clear h0
    by_cases hxx : ct x m = a
    · have e1 : decide (ct x m = a) = true := decide_eq_true hxx
      rw [e1]
      clear e1
      go_enter Tryz.func57, Tryz.ntmps57
      go_wp2
      have kne : Nonempty (Kin (w.alloc (.cells #[.int .u32 a, .int .i64 m] 58))) := ⟨⟨_, Below.refl _ _⟩⟩
      have kc0 : ∀ y : Kin (w.alloc (.cells #[.int .u32 a, .int .i64 m] 58)), y.val.cell? ⟨w.heap.size, 0, none⟩ = some (.int .u32 a) := fun y => by rw [kin_cell (by first | omega | (simp <;> omega))]; first | assumption | (simp [go_sem]; done) | simp [go_sem, *]
      have kc1 : ∀ y : Kin (w.alloc (.cells #[.int .u32 a, .int .i64 m] 58)), y.val.cell? ⟨w.heap.size, 1, none⟩ = some (.int .i64 m) := fun y => by rw [kin_cell (by first | omega | (simp <;> omega))]; first | assumption | (simp [go_sem]; done) | simp [go_sem, *]
      refine wp_region_kin (w.alloc (.cells #[.int .u32 a, .int .i64 m] 58)) (Below.refl _ _) (by kernel_rfl) (by kernel_rfl) ?_
      repeat (go_big_quiet_step (first | (go_at_call 78; exact kin_call (check_any a m _ ha)) | (go_at_call 79; exact kin_call (first_any x m _ hx hn))))
      refine wpQuiet_nil ?_
      rintro wq ⟨⟨xq, hxq⟩, hyq⟩
      have hq : Below (w.alloc (.cells #[.int .u32 a, .int .i64 m] 58)).heap.size (w.alloc (.cells #[.int .u32 a, .int .i64 m] 58)) wq := by rw [hyq]; exact hxq
      clear hyq hxq xq
      clear kne kc0 kc1
      obtain ⟨hcq, hfq⟩ := bcell hq
      have hzq := hq.size
      try simp at hzq
      go_wp2
      go_ret
      exact ⟨rfl, by (repeat (first | assumption | exact Below.refl _ _ | refine Below.drew ?_ | refine bel_drewN ?_ _ | refine Below.setCell ?_ (by first | omega | (simp; done) | (simp; omega)) _ | refine Below.alloc ?_ (by first | omega | (simp; done) | (simp; omega)) _ | refine bel_of ?_ (by assumption)))⟩
    · have e1 : decide (ct x m = a) = false := decide_eq_false hxx
      rw [e1]
      have e2 : ((ct x m : Int) == (a : Int)) = false := by rw [beq_eq_false_iff_ne]; omega
      clear e1
      go_enter Tryz.func57, Tryz.ntmps57
      go_wp2
      have kne : Nonempty (Kin (w.alloc (.cells #[.int .u32 a, .int .i64 m] 58))) := ⟨⟨_, Below.refl _ _⟩⟩
      have kc0 : ∀ y : Kin (w.alloc (.cells #[.int .u32 a, .int .i64 m] 58)), y.val.cell? ⟨w.heap.size, 0, none⟩ = some (.int .u32 a) := fun y => by rw [kin_cell (by first | omega | (simp <;> omega))]; first | assumption | (simp [go_sem]; done) | simp [go_sem, *]
      have kc1 : ∀ y : Kin (w.alloc (.cells #[.int .u32 a, .int .i64 m] 58)), y.val.cell? ⟨w.heap.size, 1, none⟩ = some (.int .i64 m) := fun y => by rw [kin_cell (by first | omega | (simp <;> omega))]; first | assumption | (simp [go_sem]; done) | simp [go_sem, *]
      refine wp_region_kin (w.alloc (.cells #[.int .u32 a, .int .i64 m] 58)) (Below.refl _ _) (by kernel_rfl) (by kernel_rfl) ?_
      repeat (go_big_quiet_step (first | (go_at_call 78; exact kin_call (check_any a m _ ha)) | (go_at_call 79; exact kin_call (first_any x m _ hx hn))))
      refine wpQuiet_nil ?_
      rintro wq ⟨⟨xq, hxq⟩, hyq⟩
      have hq : Below (w.alloc (.cells #[.int .u32 a, .int .i64 m] 58)).heap.size (w.alloc (.cells #[.int .u32 a, .int .i64 m] 58)) wq := by rw [hyq]; exact hxq
      clear hyq hxq xq
      clear kne kc0 kc1
      obtain ⟨hcq, hfq⟩ := bcell hq
      have hzq := hq.size
      try simp at hzq
      go_wp2
      go_ret
      exact ⟨rfl, by (repeat (first | assumption | exact Below.refl _ _ | refine Below.drew ?_ | refine bel_drewN ?_ _ | refine Below.setCell ?_ (by first | omega | (simp; done) | (simp; omega)) _ | refine Below.alloc ?_ (by first | omega | (simp; done) | (simp; omega)) _ | refine bel_of ?_ (by assumption)))⟩
  · rw [hasB_no h]
    have h' : (chk a n == 0) = false := by simpa using h
    go_enter Tryz.func57, Tryz.ntmps57
    go_wp2
    have kne : Nonempty (Kin (w.alloc (.cells #[.int .u32 a, .int .i64 n] 58))) := ⟨⟨_, Below.refl _ _⟩⟩
    have kc0 : ∀ y : Kin (w.alloc (.cells #[.int .u32 a, .int .i64 n] 58)), y.val.cell? ⟨w.heap.size, 0, none⟩ = some (.int .u32 a) := fun y => by rw [kin_cell (by first | omega | (simp <;> omega))]; first | assumption | (simp [go_sem]; done) | simp [go_sem, *]
    have kc1 : ∀ y : Kin (w.alloc (.cells #[.int .u32 a, .int .i64 n] 58)), y.val.cell? ⟨w.heap.size, 1, none⟩ = some (.int .i64 n) := fun y => by rw [kin_cell (by first | omega | (simp <;> omega))]; first | assumption | (simp [go_sem]; done) | simp [go_sem, *]
    refine wp_region_kin (w.alloc (.cells #[.int .u32 a, .int .i64 n] 58)) (Below.refl _ _) (by kernel_rfl) (by kernel_rfl) ?_
    repeat (go_big_quiet_step ((go_at_call 78; exact kin_call (check_any a n _ ha))))
    refine wpQuiet_nil ?_
    rintro wq ⟨⟨xq, hxq⟩, hyq⟩
    have hq : Below (w.alloc (.cells #[.int .u32 a, .int .i64 n] 58)).heap.size (w.alloc (.cells #[.int .u32 a, .int .i64 n] 58)) wq := by rw [hyq]; exact hxq
    clear hyq hxq xq
    clear kne kc0 kc1
    obtain ⟨hcq, hfq⟩ := bcell hq
    have hzq := hq.size
    try simp at hzq
    go_wp2
    go_ret
    exact ⟨rfl, by (repeat (first | assumption | exact Below.refl _ _ | refine Below.drew ?_ | refine bel_drewN ?_ _ | refine Below.setCell ?_ (by first | omega | (simp; done) | (simp; omega)) _ | refine Below.alloc ?_ (by first | omega | (simp; done) | (simp; omega)) _ | refine bel_of ?_ (by assumption)))⟩
theorem within_any (a : Nat) (n : Int) (b : Nat) (m : Int) (w : World) (ha : a < 4294967296) (hb : b < 4294967296) :
    Calls Tryz.prog 91 #[.agg #[.int .u32 a, .int .i64 n], .agg #[.int .u32 b, .int .i64 m]] w fun e w' => e = .returned (.bool (witB a n b m)) ∧ Below w.heap.size w w' := by
  by_cases h : chk a n = 0
  · by_cases hmn : m ≤ n
    · rw [show witB a n b m = hasB b m a by simp [witB, h, hmn]]
      have d : decide (m ≤ n) = true := decide_eq_true hmn
      go_enter Tryz.func91, Tryz.ntmps91
      go_wp2_with (first | (go_at_call 78; refine (check_any a n _ ha).mono ?_; rintro e w1 ⟨rfl, hb1⟩; obtain ⟨hc1, hf1⟩ := bcell hb1; have hz1 := hb1.size; (try simp at hz1); (try (have hl10 : w.heap.size < w1.heap.size := (by omega))); (try (have hl11 : w.heap.size + 1 < w1.heap.size := (by omega))); (try (have hl12 : w.heap.size + 1 + 1 < w1.heap.size := (by omega))); (try (have hl13 : w.heap.size + 1 + 1 + 1 < w1.heap.size := (by omega)))) | (go_at_call 57; refine (has_any b m a _ hb ha).mono ?_; rintro e w2 ⟨rfl, hb2⟩; obtain ⟨hc2, hf2⟩ := bcell hb2; have hz2 := hb2.size; (try simp at hz2); (try (have hl20 : w.heap.size < w2.heap.size := (by omega))); (try (have hl21 : w.heap.size + 1 < w2.heap.size := (by omega))); (try (have hl22 : w.heap.size + 1 + 1 < w2.heap.size := (by omega))); (try (have hl23 : w.heap.size + 1 + 1 + 1 < w2.heap.size := (by omega)))))
      go_ret
      exact ⟨rfl, by (repeat (first | assumption | exact Below.refl _ _ | refine Below.drew ?_ | refine bel_drewN ?_ _ | refine Below.setCell ?_ (by first | omega | (simp; done) | (simp; omega)) _ | refine Below.alloc ?_ (by first | omega | (simp; done) | (simp; omega)) _ | refine bel_of ?_ (by assumption)))⟩
    · rw [show witB a n b m = false by simp [witB, h, hmn]]
      have d : decide (m ≤ n) = false := decide_eq_false hmn
      go_enter Tryz.func91, Tryz.ntmps91
      go_wp2_with (go_at_call 78; refine (check_any a n _ ha).mono ?_; rintro e w1 ⟨rfl, hb1⟩; obtain ⟨hc1, hf1⟩ := bcell hb1; have hz1 := hb1.size; (try simp at hz1); (try (have hl10 : w.heap.size < w1.heap.size := (by omega))); (try (have hl11 : w.heap.size + 1 < w1.heap.size := (by omega))); (try (have hl12 : w.heap.size + 1 + 1 < w1.heap.size := (by omega))); (try (have hl13 : w.heap.size + 1 + 1 + 1 < w1.heap.size := (by omega))))
      go_ret
      exact ⟨rfl, by (repeat (first | assumption | exact Below.refl _ _ | refine Below.drew ?_ | refine bel_drewN ?_ _ | refine Below.setCell ?_ (by first | omega | (simp; done) | (simp; omega)) _ | refine Below.alloc ?_ (by first | omega | (simp; done) | (simp; omega)) _ | refine bel_of ?_ (by assumption)))⟩
  · rw [show witB a n b m = false by simp [witB, h]]
    have h' : (chk a n == 0) = false := by simpa using h
    go_enter Tryz.func91, Tryz.ntmps91
    go_wp2_with (go_at_call 78; refine (check_any a n _ ha).mono ?_; rintro e w1 ⟨rfl, hb1⟩; obtain ⟨hc1, hf1⟩ := bcell hb1; have hz1 := hb1.size; (try simp at hz1); (try (have hl10 : w.heap.size < w1.heap.size := (by omega))); (try (have hl11 : w.heap.size + 1 < w1.heap.size := (by omega))); (try (have hl12 : w.heap.size + 1 + 1 < w1.heap.size := (by omega))); (try (have hl13 : w.heap.size + 1 + 1 + 1 < w1.heap.size := (by omega))))
    go_ret
    exact ⟨rfl, by (repeat (first | assumption | exact Below.refl _ _ | refine Below.drew ?_ | refine bel_drewN ?_ _ | refine Below.setCell ?_ (by first | omega | (simp; done) | (simp; omega)) _ | refine Below.alloc ?_ (by first | omega | (simp; done) | (simp; omega)) _ | refine bel_of ?_ (by assumption)))⟩
end Go.Proofs.YtgidohnikggjfaaGreat.Pf
