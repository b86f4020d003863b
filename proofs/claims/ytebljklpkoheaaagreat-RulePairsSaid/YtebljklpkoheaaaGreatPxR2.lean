/-
  What each function of the document's answer hands back: Bit, one, Check, Of, Run.
-/
import Derived.Test.YtebljklpkoheaaaGreatPxB
import Derived.Deep.RegionWith
namespace Go.Proofs.YtebljklpkoheaaaGreat.Pf
open Go.RowKit
set_option linter.unusedVariables false
set_option linter.unusedSimpArgs false
attribute [local go_sem ↓] Go.wp_at_zero Go.wp_at_succ

theorem rbit_any (a i : Nat) (w : World) (ha : a < 4294967296) (hi : i ≤ 31) :
    Calls Tryz.prog 62 #[.int .u32 a, .int .i64 i] w fun e w' => e = .returned (.int .i64 (tb a i : Int)) ∧ w' = w := by
  have h0 : 0 ≤ (a : Int) / 2 ^ (31 - i) := by rw [show (a : Int) / 2 ^ (31 - i) = ((a / 2 ^ (31 - i) : Nat) : Int) by simp]; exact Int.natCast_nonneg _
  have h1 : (a : Int) / 2 ^ (31 - i) ≤ a := Int.ediv_le_self _ (by omega)
  go_enter Tryz.func62, Tryz.ntmps62
  go_wp2
  go_ret
  exact ⟨ret_int (by rw [← bit_int a i]), rfl⟩
theorem rone_any (i : Nat) (w : World) (hi : i ≤ 31) :
    Calls Tryz.prog 64 #[.int .i64 i] w fun e w' => e = .returned (.int .u32 (bk (i + 1) : Int)) ∧ w' = w := by
  go_enter Tryz.func64, Tryz.ntmps64
  go_wp2
  go_ret
  exact ⟨ret_int (by rw [one_int i (by omega)]), rfl⟩
theorem rcheck_any (a : Nat) (n : Int) (w : World) (ha : a < 4294967296) :
    Calls Tryz.prog 33 #[.agg #[.int .u32 a, .int .i64 n]] w fun e w' => e = .returned (.int .i64 (chk a n)) ∧ Below w.heap.size w w' := by
  by_cases hn : n < 0 ∨ 32 < n
  · rw [chk_out a n hn]
    by_cases h1 : n < 0
    · have d1 : decide (n < 0) = true := decide_eq_true h1
      go_enter Tryz.func33, Tryz.ntmps33
      go_wp2
      go_ret
      exact ⟨rfl, by (repeat (first | assumption | exact Below.refl _ _ | refine Below.drew ?_ | refine bel_drewN ?_ _ | refine Below.setCell ?_ (by first | omega | (simp; done) | (simp; omega)) _ | refine Below.alloc ?_ (by first | omega | (simp; done) | (simp; omega)) _ | refine bel_of ?_ (by assumption)))⟩
    · have d1 : decide (n < 0) = false := decide_eq_false h1
      have h2 : 32 < n := by omega
      have d2 : decide (32 < n) = true := decide_eq_true h2
      go_enter Tryz.func33, Tryz.ntmps33
      go_wp2
      go_ret
      exact ⟨rfl, by (repeat (first | assumption | exact Below.refl _ _ | refine Below.drew ?_ | refine bel_drewN ?_ _ | refine Below.setCell ?_ (by first | omega | (simp; done) | (simp; omega)) _ | refine Below.alloc ?_ (by first | omega | (simp; done) | (simp; omega)) _ | refine bel_of ?_ (by assumption)))⟩
  · obtain ⟨m, rfl⟩ : ∃ m : Nat, n = (m : Int) := ⟨n.toNat, by omega⟩
    have hm : m ≤ 32 := by omega
    have d1 : decide ((m : Int) < 0) = false := decide_eq_false (by omega)
    have d2 : decide ((32 : Int) < m) = false := decide_eq_false (by omega)
    clear hn
    go_enter Tryz.func33, Tryz.ntmps33
    go_wp2
    go_loop [3] (fun i => ∃ k : Nat, m ≤ k ∧ k ≤ 32 ∧ i = .int .i64 k ∧ a % bk m = a % bk k) (fun i => 32 - (intOf i).toNat)
    case atStart => exact ⟨m, Nat.le_refl _, hm, rfl, rfl⟩
    case round =>
      obtain ⟨k, hmk, hk, rfl, hmod⟩ := hrel
      have HM : Hid (a % bk m = a % bk k) := hmod
      clear hmod
      by_cases hlt : k < 32
      · have hst : Hid (_) := mod_step a k hlt
        have htl := tb_lt a k
        by_cases ht : tb a k = 1
        · have ht' : (tb a k : Int) = 1 := by omega
          have hne : Hid (chk a m = 21) := chk_bits a m hm (by rw [HM.out, hst.out, ht]; have := bk_pos (k + 1); omega)
          go_wp2_with (go_at_call 62; refine (rbit_any a k _ ha (by omega)).mono ?_; rintro e w' ⟨rfl, hw⟩; obtain rfl := hw.symm; clear hw)
          go_ret
          exact ⟨ret_int hne.out.symm, by (repeat (first | assumption | exact Below.refl _ _ | refine Below.drew ?_ | refine bel_drewN ?_ _ | refine Below.setCell ?_ (by first | omega | (simp; done) | (simp; omega)) _ | refine Below.alloc ?_ (by first | omega | (simp; done) | (simp; omega)) _ | refine bel_of ?_ (by assumption)))⟩
        · have ht' : ¬ (tb a k : Int) = 1 := by omega
          have ht0 : Hid (tb a k = 0) := (show tb a k = 0 by omega)
          go_wp2_with (go_at_call 62; refine (rbit_any a k _ ha (by omega)).mono ?_; rintro e w' ⟨rfl, hw⟩; obtain rfl := hw.symm; clear hw)
          go_round
          case rel => exact ⟨k + 1, by omega, by omega, by go_num, by rw [HM.out, hst.out, ht0.out]; omega⟩
          case measure => simp [intOf]; omega
      · obtain rfl : k = 32 := by omega
        have hz : Hid (chk a m = 0) := chk_in a m hm (by rw [HM.out, bk_32]; omega)
        go_wp2
        go_ret
        exact ⟨ret_int hz.out.symm, by (repeat (first | assumption | exact Below.refl _ _ | refine Below.drew ?_ | refine bel_drewN ?_ _ | refine Below.setCell ?_ (by first | omega | (simp; done) | (simp; omega)) _ | refine Below.alloc ?_ (by first | omega | (simp; done) | (simp; omega)) _ | refine bel_of ?_ (by assumption)))⟩
set_option maxHeartbeats 1000000 in
theorem rrun_any (a : Nat) (n : Int) (w : World) (ha : a < 4294967296) :
    Calls Tryz.prog 37 #[.agg #[.int .u32 a, .int .i64 n]] w fun e w' => e = .returned (.tuple #[.agg #[.int .u32 (rL a n : Int), .int .u32 (rH a n : Int)], .int .i64 (chk a n)]) ∧ Below w.heap.size w w' := by
  by_cases h : chk a n = 0
  · obtain ⟨m, rfl, hn, h0⟩ := chk_ok h
    rw [show rL a m = a by simp [rL, h], show rH a m = a + (bk m - 1) by simp [rH, h]]
    have htop := top_lt a m ha h0 hn
    clear h0
    have lt1 : w.heap.size < w.heap.size + 1 + 1 := by omega
    go_enter Tryz.func37, Tryz.ntmps37
    go_wp2_with (go_at_call 33; refine (rcheck_any a m _ ha).mono ?_; rintro e w1 ⟨rfl, hb1⟩; obtain ⟨hc1, hf1⟩ := bcell hb1; have hz1 := hb1.size; (try simp at hz1); (try (have hl10 : w.heap.size < w1.heap.size := (by omega))); (try (have hl11 : w.heap.size + 1 < w1.heap.size := (by omega))); (try (have hl12 : w.heap.size + 1 + 1 < w1.heap.size := (by omega))); (try (have hl13 : w.heap.size + 1 + 1 + 1 < w1.heap.size := (by omega))))
    have l0 : w.heap.size < w1.heap.size := by omega
    have l1 : w.heap.size + 1 < w1.heap.size := by omega
    have k0 : w1.cell? ⟨w.heap.size + 1, 0, none⟩ = some (.int .u32 0) := by rw [hc1 _ _ (by first | omega | (simp <;> omega))]; simp [go_sem]
    have k1 : w1.cell? ⟨w.heap.size + 1, 1, none⟩ = some (.int .u32 0) := by rw [hc1 _ _ (by first | omega | (simp <;> omega))]; simp [go_sem]
    have k2 : w1.frozen? ⟨w.heap.size + 1, 0, none⟩ = false := by rw [hf1 _ _ (by first | omega | (simp <;> omega))]; simp [go_sem]
    have k3 : w1.frozen? ⟨w.heap.size + 1, 1, none⟩ = false := by rw [hf1 _ _ (by first | omega | (simp <;> omega))]; simp [go_sem]
    have hbw : Below w.heap.size w w1 := by (repeat (first | assumption | exact Below.refl _ _ | refine Below.drew ?_ | refine bel_drewN ?_ _ | refine Below.setCell ?_ (by first | omega | (simp; done) | (simp; omega)) _ | refine Below.alloc ?_ (by first | omega | (simp; done) | (simp; omega)) _ | refine bel_of ?_ (by assumption)))
    clear hc1 hf1 hb1
    go_loopw [6] (fun i wr => ∃ k : Nat, m ≤ k ∧ k ≤ 32 ∧ i = .int .i64 k ∧ wr.cell? ⟨w1.heap.size, 0, none⟩ = some (.int .u32 a) ∧ wr.cell? ⟨w1.heap.size, 1, none⟩ = some (.int .u32 ((a + (bk m - bk k) : Nat) : Int)) ∧ wr.frozen? ⟨w1.heap.size, 1, none⟩ = false ∧ wr.cell? ⟨w.heap.size + 1, 0, none⟩ = some (.int .u32 0) ∧ wr.cell? ⟨w.heap.size + 1, 1, none⟩ = some (.int .u32 0) ∧ wr.frozen? ⟨w.heap.size + 1, 0, none⟩ = false ∧ wr.frozen? ⟨w.heap.size + 1, 1, none⟩ = false ∧ Below w.heap.size w wr) (fun i _ => 32 - (intOf i).toNat)
    case atStart => exact ⟨m, Nat.le_refl _, hn, rfl, by simp [go_sem], by rw [Nat.sub_self]; simp [go_sem], by simp [go_sem], by simp [go_sem, *], by simp [go_sem, *], by simp [go_sem, *], by simp [go_sem, *], by (repeat (first | assumption | exact Below.refl _ _ | refine Below.drew ?_ | refine bel_drewN ?_ _ | refine Below.setCell ?_ (by first | omega | (simp; done) | (simp; omega)) _ | refine Below.alloc ?_ (by first | omega | (simp; done) | (simp; omega)) _ | refine bel_of ?_ (by assumption)))⟩
    case round =>
      obtain ⟨k, hmk, hk, rfl, c0, c1, f0, r0, r1, g0, g1, hbel⟩ := hrel
      by_cases hlt : k < 32
      · have hbs := bk_succ k hlt
        have hdv : bk k ≤ bk m := Nat.le_of_dvd (bk_pos m) (bk_dvd m k hmk)
        have hpk := bk_pos (k + 1)
        obtain ⟨v, hv⟩ : ∃ v : Nat, v = a + (bk m - bk k) := ⟨_, rfl⟩
        rw [← hv] at c1
        obtain ⟨z, hz⟩ : ∃ z : Nat, z = bk (k + 1) := ⟨_, rfl⟩
        have hone : ∀ w1 : World, Calls Tryz.prog 64 #[.int .i64 k] w1 fun e w' => e = .returned (.int .u32 (z : Int)) ∧ w' = w1 := fun w1 => by rw [hz]; exact rone_any k w1 (by omega)
        have HS : Hid (((v : Int) + (z : Int)) % 4294967296 = ((a + (bk m - bk (k + 1)) : Nat) : Int)) := by show _ = _; omega
        clear hbs hdv hpk hv htop hz
        go_wp2
        go_region_with (go_at_call 64; refine (hone _).mono ?_; rintro e w' ⟨rfl, hw⟩; obtain rfl := hw.symm; clear hw)
        all_goals
          go_wp2
          go_roundw
          case rel => exact ⟨k + 1, by omega, by omega, by go_num, by simp [go_sem, *], by rw [← HS.out]; simp [go_sem, *], by simp [go_sem, *], by simp [go_sem, *], by simp [go_sem, *], by simp [go_sem, *], by simp [go_sem, *], by (repeat (first | assumption | exact Below.refl _ _ | refine Below.drew ?_ | refine bel_drewN ?_ _ | refine Below.setCell ?_ (by first | omega | (simp; done) | (simp; omega)) _ | refine Below.alloc ?_ (by first | omega | (simp; done) | (simp; omega)) _ | refine bel_of ?_ (by assumption)))⟩
          case measure => simp [intOf]; omega
      · obtain rfl : k = 32 := by omega
        rw [bk_32] at c1
        go_wp2
        exact bodyPost_ret (v := .tuple #[.agg #[.int .u32 a, .int .u32 ((a + (bk m - 1) : Nat) : Int)], .int .i64 (chk a m)]) (by simp [results, Tryz.results37, go_sem, *]) rfl ⟨rfl, by (repeat (first | assumption | exact Below.refl _ _ | refine Below.drew ?_ | refine bel_drewN ?_ _ | refine Below.setCell ?_ (by first | omega | (simp; done) | (simp; omega)) _ | refine Below.alloc ?_ (by first | omega | (simp; done) | (simp; omega)) _ | refine bel_of ?_ (by assumption)))⟩
  · rw [show (rL a n : Int) = 0 by simp [rL, h], show (rH a n : Int) = 0 by simp [rH, h]]
    go_enter Tryz.func37, Tryz.ntmps37
    go_wp2_with (go_at_call 33; refine (rcheck_any a n _ ha).mono ?_; rintro e w1 ⟨rfl, hb1⟩; obtain ⟨hc1, hf1⟩ := bcell hb1; have hz1 := hb1.size; (try simp at hz1); (try (have hl10 : w.heap.size < w1.heap.size := (by omega))); (try (have hl11 : w.heap.size + 1 < w1.heap.size := (by omega))); (try (have hl12 : w.heap.size + 1 + 1 < w1.heap.size := (by omega))); (try (have hl13 : w.heap.size + 1 + 1 + 1 < w1.heap.size := (by omega))))
    exact bodyPost_ret (v := .tuple #[.agg #[.int .u32 0, .int .u32 0], .int .i64 (chk a n)]) (by simp [results, Tryz.results37, go_sem, hc1, hf1]) rfl ⟨rfl, by (repeat (first | assumption | exact Below.refl _ _ | refine Below.drew ?_ | refine bel_drewN ?_ _ | refine Below.setCell ?_ (by first | omega | (simp; done) | (simp; omega)) _ | refine Below.alloc ?_ (by first | omega | (simp; done) | (simp; omega)) _ | refine bel_of ?_ (by assumption)))⟩
end Go.Proofs.YtebljklpkoheaaaGreat.Pf
