/-
  PkAH: PxB, one behind the other (tools/pack.py).
-/
import Derived.Test.YtabkbfopklpckaaGreatPkAF
import Derived.Deep.RegionHeld3
import Derived.Deep.DrawnRows
import Derived.Test.YtabkbfopklpckaaGreatPkAE
set_option linter.unusedVariables false
set_option linter.unusedSimpArgs false
namespace Go.Proofs.YtabkbfopklpckaaGreat.Pf
open Go.RowKit
attribute [local go_sem ↓] Go.wp_at_zero Go.wp_at_succ
theorem run_any (a : Nat) (n : Int) (w : World) (ha : a < 4294967296) :
  Calls Tryz.prog 122 #[.agg #[.int .u32 a, .int .i64 n]] w fun e w' => e = .returned (.tuple #[.agg #[.int .u32 (rL a n : Int), .int .u32 (rH a n : Int)], .int .i64 (chk a n)]) ∧ Below w.heap.size w w' := by
 by_cases h : chk a n = 0
 ·obtain ⟨m, rfl, hn, h0⟩ := chk_ok h
  rw [show rL a m = a by simp [rL, h], show rH a m = a + (bk m - 1) by simp [rH, h]]
  have hor := or_lw a m ha h0
  clear h0
  go_enter Tryz.func122, Tryz.ntmps122
  go_wp2_with (go_at_call 77; refine (check_any a m _ ha).mono ?_; rintro e w1 ⟨rfl, hb1⟩; obtain ⟨hc1, hf1⟩ := bcell hb1; have hz1 := hb1.size; (try simp at hz1); (try (have hl10 : w.heap.size < w1.heap.size := (by omega))); (try (have hl11 : w.heap.size + 1 < w1.heap.size := (by omega))); (try (have hl12 : w.heap.size + 1 + 1 < w1.heap.size := (by omega))); (try (have hl13 : w.heap.size + 1 + 1 + 1 < w1.heap.size := (by omega))))
  have k0 : w1.cell? ⟨w.heap.size, 0, none⟩ = some (.int .u32 a) := by rw [hc1 _ _ (by first | omega | (simp <;> omega))]; simp [go_sem]
  have k1 : w1.cell? ⟨w.heap.size, 1, none⟩ = some (.int .i64 m) := by rw [hc1 _ _ (by first | omega | (simp <;> omega))]; simp [go_sem]
  go_region_held3 (fun w' => w'.cell? ⟨w.heap.size, 0, none⟩ = some (.int .u32 a) ∧ w'.cell? ⟨w.heap.size, 1, none⟩ = some (.int .i64 m)) (go_keep) (first | (go_at_call 115; refine (beyond_any m _ hn).mono ?_; rintro e w' ⟨rfl, hw⟩; obtain rfl := hw.symm; clear hw))
  go_wp2
  exact bodyPost_ret (v := .tuple #[.agg #[.int .u32 a, .int .u32 ((a + (bk m - 1) : Nat) : Int)], .int .i64 (chk a m)]) (by simp [results, Tryz.results122, go_sem, hc1, hf1, h]) rfl ⟨rfl, by (repeat (first | assumption | exact Below.refl _ _ | refine Below.drew ?_ | refine bel_drewN ?_ _ | refine Below.setCell ?_ (by first | omega | (simp; done) | (simp; omega)) _ | refine Below.alloc ?_ (by first | omega | (simp; done) | (simp; omega)) _ | refine bel_of ?_ (by assumption)))⟩
 ·rw [show (rL a n : Int) = 0 by simp [rL, h], show (rH a n : Int) = 0 by simp [rH, h]]
  go_enter Tryz.func122, Tryz.ntmps122
  go_wp2_with (go_at_call 77; refine (check_any a n _ ha).mono ?_; rintro e w1 ⟨rfl, hb1⟩; obtain ⟨hc1, hf1⟩ := bcell hb1; have hz1 := hb1.size; (try simp at hz1); (try (have hl10 : w.heap.size < w1.heap.size := (by omega))); (try (have hl11 : w.heap.size + 1 < w1.heap.size := (by omega))); (try (have hl12 : w.heap.size + 1 + 1 < w1.heap.size := (by omega))); (try (have hl13 : w.heap.size + 1 + 1 + 1 < w1.heap.size := (by omega))))
  exact bodyPost_ret (v := .tuple #[.agg #[.int .u32 0, .int .u32 0], .int .i64 (chk a n)]) (by simp [results, Tryz.results122, go_sem, hc1, hf1]) rfl ⟨rfl, by (repeat (first | assumption | exact Below.refl _ _ | refine Below.drew ?_ | refine bel_drewN ?_ _ | refine Below.setCell ?_ (by first | omega | (simp; done) | (simp; omega)) _ | refine Below.alloc ?_ (by first | omega | (simp; done) | (simp; omega)) _ | refine bel_of ?_ (by assumption)))⟩
theorem has_any (a : Nat) (n : Int) (x : Nat) (w : World) (ha : a < 4294967296) (hx : x < 4294967296) :
  Calls Tryz.prog 63 #[.agg #[.int .u32 a, .int .i64 n], .int .u32 x] w fun e w' => e = .returned (.bool (hasB a n x)) ∧ Below w.heap.size w w' := by
 by_cases h : chk a n = 0
 ·obtain ⟨m, rfl, hn, h0⟩ := chk_ok h
  rw [hasB_in h]
  clear h0
  by_cases hxx : ct x m = a
  ·have e1 : decide (ct x m = a) = true := decide_eq_true hxx
   rw [e1]
   clear e1
   go_enter Tryz.func63, Tryz.ntmps63
   go_wp2
   have kne : Nonempty (Kin (w.alloc (.cells #[.int .u32 a, .int .i64 m] 58))) := ⟨⟨_, Below.refl _ _⟩⟩
   have kc0 : ∀ y : Kin (w.alloc (.cells #[.int .u32 a, .int .i64 m] 58)), y.val.cell? ⟨w.heap.size, 0, none⟩ = some (.int .u32 a) := fun y => by rw [kin_cell (by first | omega | (simp <;> omega))]; first | assumption | (simp [go_sem]; done) | simp [go_sem, *]
   have kc1 : ∀ y : Kin (w.alloc (.cells #[.int .u32 a, .int .i64 m] 58)), y.val.cell? ⟨w.heap.size, 1, none⟩ = some (.int .i64 m) := fun y => by rw [kin_cell (by first | omega | (simp <;> omega))]; first | assumption | (simp [go_sem]; done) | simp [go_sem, *]
   refine wp_region_kin (w.alloc (.cells #[.int .u32 a, .int .i64 m] 58)) (Below.refl _ _) (by kernel_rfl) (by kernel_rfl) ?_
   repeat (go_big_quiet_step (first | (go_at_call 77; exact kin_call (check_any a m _ ha)) | (go_at_call 78; exact kin_call (first_any x m _ hx hn))))
   refine wpQuiet_nil ?_
   rintro wq ⟨⟨xq, hxq⟩, hyq⟩
   have hq : Below (w.alloc (.cells #[.int .u32 a, .int .i64 m] 58)).heap.size (w.alloc (.cells #[.int .u32 a, .int .i64 m] 58)) wq := by rw [hyq]; exact hxq
   clear hyq hxq xq
   clear kne kc0 kc1
   obtain ⟨hcq, hfq⟩ := bcell hq
   have hzq := hq.size
   try simp at hzq
   go_wp2
   go_ret
   exact ⟨rfl, by (repeat (first | assumption | exact Below.refl _ _ | refine Below.drew ?_ | refine bel_drewN ?_ _ | refine Below.setCell ?_ (by first | omega | (simp; done) | (simp; omega)) _ | refine Below.alloc ?_ (by first | omega | (simp; done) | (simp; omega)) _ | refine bel_of ?_ (by assumption)))⟩
  ·have e1 : decide (ct x m = a) = false := decide_eq_false hxx
   rw [e1]
   have e2 : ((ct x m : Int) == (a : Int)) = false := by rw [beq_eq_false_iff_ne]; omega
   clear e1
   go_enter Tryz.func63, Tryz.ntmps63
   go_wp2
   have kne : Nonempty (Kin (w.alloc (.cells #[.int .u32 a, .int .i64 m] 58))) := ⟨⟨_, Below.refl _ _⟩⟩
   have kc0 : ∀ y : Kin (w.alloc (.cells #[.int .u32 a, .int .i64 m] 58)), y.val.cell? ⟨w.heap.size, 0, none⟩ = some (.int .u32 a) := fun y => by rw [kin_cell (by first | omega | (simp <;> omega))]; first | assumption | (simp [go_sem]; done) | simp [go_sem, *]
   have kc1 : ∀ y : Kin (w.alloc (.cells #[.int .u32 a, .int .i64 m] 58)), y.val.cell? ⟨w.heap.size, 1, none⟩ = some (.int .i64 m) := fun y => by rw [kin_cell (by first | omega | (simp <;> omega))]; first | assumption | (simp [go_sem]; done) | simp [go_sem, *]
   refine wp_region_kin (w.alloc (.cells #[.int .u32 a, .int .i64 m] 58)) (Below.refl _ _) (by kernel_rfl) (by kernel_rfl) ?_
   repeat (go_big_quiet_step (first | (go_at_call 77; exact kin_call (check_any a m _ ha)) | (go_at_call 78; exact kin_call (first_any x m _ hx hn))))
   refine wpQuiet_nil ?_
   rintro wq ⟨⟨xq, hxq⟩, hyq⟩
   have hq : Below (w.alloc (.cells #[.int .u32 a, .int .i64 m] 58)).heap.size (w.alloc (.cells #[.int .u32 a, .int .i64 m] 58)) wq := by rw [hyq]; exact hxq
   clear hyq hxq xq
   clear kne kc0 kc1
   obtain ⟨hcq, hfq⟩ := bcell hq
   have hzq := hq.size
   try simp at hzq
   go_wp2
   go_ret
   exact ⟨rfl, by (repeat (first | assumption | exact Below.refl _ _ | refine Below.drew ?_ | refine bel_drewN ?_ _ | refine Below.setCell ?_ (by first | omega | (simp; done) | (simp; omega)) _ | refine Below.alloc ?_ (by first | omega | (simp; done) | (simp; omega)) _ | refine bel_of ?_ (by assumption)))⟩
 ·rw [hasB_no h]
  have h' : (chk a n == 0) = false := by simpa using h
  go_enter Tryz.func63, Tryz.ntmps63
  go_wp2
  have kne : Nonempty (Kin (w.alloc (.cells #[.int .u32 a, .int .i64 n] 58))) := ⟨⟨_, Below.refl _ _⟩⟩
  have kc0 : ∀ y : Kin (w.alloc (.cells #[.int .u32 a, .int .i64 n] 58)), y.val.cell? ⟨w.heap.size, 0, none⟩ = some (.int .u32 a) := fun y => by rw [kin_cell (by first | omega | (simp <;> omega))]; first | assumption | (simp [go_sem]; done) | simp [go_sem, *]
  have kc1 : ∀ y : Kin (w.alloc (.cells #[.int .u32 a, .int .i64 n] 58)), y.val.cell? ⟨w.heap.size, 1, none⟩ = some (.int .i64 n) := fun y => by rw [kin_cell (by first | omega | (simp <;> omega))]; first | assumption | (simp [go_sem]; done) | simp [go_sem, *]
  refine wp_region_kin (w.alloc (.cells #[.int .u32 a, .int .i64 n] 58)) (Below.refl _ _) (by kernel_rfl) (by kernel_rfl) ?_
  repeat (go_big_quiet_step ((go_at_call 77; exact kin_call (check_any a n _ ha))))
  refine wpQuiet_nil ?_
  rintro wq ⟨⟨xq, hxq⟩, hyq⟩
  have hq : Below (w.alloc (.cells #[.int .u32 a, .int .i64 n] 58)).heap.size (w.alloc (.cells #[.int .u32 a, .int .i64 n] 58)) wq := by rw [hyq]; exact hxq
  clear hyq hxq xq
  clear kne kc0 kc1
  obtain ⟨hcq, hfq⟩ := bcell hq
  have hzq := hq.size
  try simp at hzq
  go_wp2
  go_ret
  exact ⟨rfl, by (repeat (first | assumption | exact Below.refl _ _ | refine Below.drew ?_ | refine bel_drewN ?_ _ | refine Below.setCell ?_ (by first | omega | (simp; done) | (simp; omega)) _ | refine Below.alloc ?_ (by first | omega | (simp; done) | (simp; omega)) _ | refine bel_of ?_ (by assumption)))⟩
end Go.Proofs.YtabkbfopklpckaaGreat.Pf
