/-
  What each function of the document's answer hands back: Has, Within, Halves, Compare.
-/
import Derived.Test.YtgidohnikggjfaaGreatPxR2
import Derived.Test.YtgidohnikggjfaaGreatPxPlB
namespace Go.Proofs.YtgidohnikggjfaaGreat.Pf
open Go.RowKit
set_option linter.unusedVariables false
set_option linter.unusedSimpArgs false
attribute [local go_sem ↓] Go.wp_at_zero Go.wp_at_succ

theorem wrap_i64_small (x : Int) (h : -9223372036854775808 ≤ x) (h' : x ≤ 9223372036854775807) : IntKind.i64.wrap x = x := by
  simp [IntKind.wrap, IntKind.bits, IntKind.signed]; omega
set_option maxHeartbeats 1000000 in
theorem rhas_any (a : Nat) (n : Int) (x : Nat) (w : World) (ha : a < 4294967296) (hx : x < 4294967296) :
    Calls Tryz.prog 41 #[.agg #[.int .u32 a, .int .i64 n], .int .u32 x] w fun e w' => e = .returned (.bool (hasB a n x)) ∧ Below w.heap.size w w' := by
  by_cases h : chk a n = 0
  · obtain ⟨m, rfl, hn, h0⟩ := chk_ok h
    have HH : Hid (hasB a (m : Int) x = decide (ct x m = a)) := hasB_in h
    have h00 : Hid (ct a m = a) := ct_self a m h0
    clear h0
    go_enter Tryz.func41, Tryz.ntmps41
    go_wp2_with (go_at_call 60; refine (rcheck_any a m _ ha).mono ?_; rintro e w1 ⟨rfl, hb1⟩; obtain ⟨hc1, hf1⟩ := bcell hb1; have hz1 := hb1.size; (try simp at hz1); (try (have hl10 : w.heap.size < w1.heap.size := (by omega))); (try (have hl11 : w.heap.size + 1 < w1.heap.size := (by omega))); (try (have hl12 : w.heap.size + 1 + 1 < w1.heap.size := (by omega))); (try (have hl13 : w.heap.size + 1 + 1 + 1 < w1.heap.size := (by omega))))
    have k0 : w1.cell? ⟨w.heap.size, 0, none⟩ = some (.int .u32 a) := by rw [hc1 _ _ (by first | omega | (simp <;> omega))]; simp [go_sem]
    have k1 : w1.cell? ⟨w.heap.size, 1, none⟩ = some (.int .i64 m) := by rw [hc1 _ _ (by first | omega | (simp <;> omega))]; simp [go_sem]
    have hbw : Below w.heap.size w w1 := by (repeat (first | assumption | exact Below.refl _ _ | refine Below.drew ?_ | refine bel_drewN ?_ _ | refine Below.setCell ?_ (by first | omega | (simp; done) | (simp; omega)) _ | refine Below.alloc ?_ (by first | omega | (simp; done) | (simp; omega)) _ | refine bel_of ?_ (by assumption)))
    clear hc1 hf1 hb1
    go_loop [5] (fun i => ∃ k : Nat, k ≤ m ∧ i = .int .i64 k ∧ ct a k = ct x k) (fun i => m - (intOf i).toNat)
    case atStart => exact ⟨0, Nat.zero_le _, rfl, by rw [ct_zero a ha, ct_zero x hx]⟩
    case round =>
      obtain ⟨k, hk, rfl, hcc⟩ := hrel
      have HC : Hid (ct a k = ct x k) := hcc
      clear hcc
      by_cases hlt : k < m
      · have t1 := tb_lt a k
        have t2 := tb_lt x k
        by_cases ht : tb a k = tb x k
        · have HT : Hid (tb a k = tb x k) := ht
          have ht' : ((tb a k : Int) != (tb x k : Int)) = false := by rw [ht]; simp
          clear ht
          go_wp2_with (go_at_call 61; refine (rbit_any _ k _ ?_ ?_).mono ?_; assumption; omega; rintro e w' ⟨rfl, hw⟩; obtain rfl := hw.symm; clear hw)
          go_round
          case rel => exact ⟨k + 1, by omega, by go_num, ct_alike a x k (by omega) HC.out HT.out⟩
          case measure => simp [intOf]; omega
        · have ht' : ((tb a k : Int) != (tb x k : Int)) = true := by simp; omega
          have HT : Hid (¬ tb a k = tb x k) := ht
          clear ht
          go_wp2_with (go_at_call 61; refine (rbit_any _ k _ ?_ ?_).mono ?_; assumption; omega; rintro e w' ⟨rfl, hw⟩; obtain rfl := hw.symm; clear hw)
          go_ret
          exact ⟨ret_same (by rw [HH.out]; exact (decide_eq_false (ct_apart a x m k hlt hn HC.out HT.out)).symm), hbw⟩
      · obtain rfl : k = m := by omega
        go_wp2
        go_ret
        exact ⟨ret_same (by rw [HH.out]; exact (decide_eq_true (by rw [← HC.out, h00.out])).symm), hbw⟩
  · rw [hasB_no h]
    have h' : (chk a n != 0) = true := by simpa using h
    go_enter Tryz.func41, Tryz.ntmps41
    go_wp2_with (go_at_call 60; refine (rcheck_any a n _ ha).mono ?_; rintro e w1 ⟨rfl, hb1⟩; obtain ⟨hc1, hf1⟩ := bcell hb1; have hz1 := hb1.size; (try simp at hz1); (try (have hl10 : w.heap.size < w1.heap.size := (by omega))); (try (have hl11 : w.heap.size + 1 < w1.heap.size := (by omega))); (try (have hl12 : w.heap.size + 1 + 1 < w1.heap.size := (by omega))); (try (have hl13 : w.heap.size + 1 + 1 + 1 < w1.heap.size := (by omega))))
    go_ret
    exact ⟨rfl, by (repeat (first | assumption | exact Below.refl _ _ | refine Below.drew ?_ | refine bel_drewN ?_ _ | refine Below.setCell ?_ (by first | omega | (simp; done) | (simp; omega)) _ | refine Below.alloc ?_ (by first | omega | (simp; done) | (simp; omega)) _ | refine bel_of ?_ (by assumption)))⟩
set_option maxHeartbeats 1000000 in
theorem rwithin_any (a : Nat) (n : Int) (b : Nat) (m : Int) (w : World) (ha : a < 4294967296) (hb : b < 4294967296) :
    Calls Tryz.prog 64 #[.agg #[.int .u32 a, .int .i64 n], .agg #[.int .u32 b, .int .i64 m]] w fun e w' => e = .returned (.bool (witB a n b m)) ∧ Below w.heap.size w w' := by
  have lt1 : w.heap.size < w.heap.size + 1 + 1 := by omega
  by_cases h : chk a n = 0
  · by_cases hB : chk b m = 0
    · by_cases hmn : m ≤ n
      · rw [show witB a n b m = hasB b m a by simp [witB, h, hmn]]
        have d : decide (m ≤ n) = true := decide_eq_true hmn
        go_enter Tryz.func64, Tryz.ntmps64
        go_wp2_with (first | (go_at_call 60; refine (rcheck_any _ _ _ (by assumption)).mono ?_; rintro e w1 ⟨rfl, hb1⟩; obtain ⟨hc1, hf1⟩ := bcell hb1; have hz1 := hb1.size; (try simp at hz1); (try (have hl10 : w.heap.size < w1.heap.size := (by omega))); (try (have hl11 : w.heap.size + 1 < w1.heap.size := (by omega))); (try (have hl12 : w.heap.size + 1 + 1 < w1.heap.size := (by omega))); (try (have hl13 : w.heap.size + 1 + 1 + 1 < w1.heap.size := (by omega)))) | (go_at_call 41; refine (rhas_any b m a _ hb ha).mono ?_; rintro e w2 ⟨rfl, hb2⟩; obtain ⟨hc2, hf2⟩ := bcell hb2; have hz2 := hb2.size; (try simp at hz2); (try (have hl20 : w.heap.size < w2.heap.size := (by omega))); (try (have hl21 : w.heap.size + 1 < w2.heap.size := (by omega))); (try (have hl22 : w.heap.size + 1 + 1 < w2.heap.size := (by omega))); (try (have hl23 : w.heap.size + 1 + 1 + 1 < w2.heap.size := (by omega)))))
        go_ret
        exact ⟨rfl, by (repeat (first | assumption | exact Below.refl _ _ | refine Below.drew ?_ | refine bel_drewN ?_ _ | refine Below.setCell ?_ (by first | omega | (simp; done) | (simp; omega)) _ | refine Below.alloc ?_ (by first | omega | (simp; done) | (simp; omega)) _ | refine bel_of ?_ (by assumption)))⟩
      · rw [show witB a n b m = false by simp [witB, h, hmn]]
        have d : decide (m ≤ n) = false := decide_eq_false hmn
        go_enter Tryz.func64, Tryz.ntmps64
        go_wp2_with (go_at_call 60; refine (rcheck_any _ _ _ (by assumption)).mono ?_; rintro e w1 ⟨rfl, hb1⟩; obtain ⟨hc1, hf1⟩ := bcell hb1; have hz1 := hb1.size; (try simp at hz1); (try (have hl10 : w.heap.size < w1.heap.size := (by omega))); (try (have hl11 : w.heap.size + 1 < w1.heap.size := (by omega))); (try (have hl12 : w.heap.size + 1 + 1 < w1.heap.size := (by omega))); (try (have hl13 : w.heap.size + 1 + 1 + 1 < w1.heap.size := (by omega))))
        go_ret
        exact ⟨rfl, by (repeat (first | assumption | exact Below.refl _ _ | refine Below.drew ?_ | refine bel_drewN ?_ _ | refine Below.setCell ?_ (by first | omega | (simp; done) | (simp; omega)) _ | refine Below.alloc ?_ (by first | omega | (simp; done) | (simp; omega)) _ | refine bel_of ?_ (by assumption)))⟩
    · rw [show witB a n b m = false by simp [witB, hasB_no hB]]
      have hB' : (chk b m == 0) = false := by simpa using hB
      go_enter Tryz.func64, Tryz.ntmps64
      go_wp2_with (go_at_call 60; refine (rcheck_any _ _ _ (by assumption)).mono ?_; rintro e w1 ⟨rfl, hb1⟩; obtain ⟨hc1, hf1⟩ := bcell hb1; have hz1 := hb1.size; (try simp at hz1); (try (have hl10 : w.heap.size < w1.heap.size := (by omega))); (try (have hl11 : w.heap.size + 1 < w1.heap.size := (by omega))); (try (have hl12 : w.heap.size + 1 + 1 < w1.heap.size := (by omega))); (try (have hl13 : w.heap.size + 1 + 1 + 1 < w1.heap.size := (by omega))))
      go_ret
      exact ⟨rfl, by (repeat (first | assumption | exact Below.refl _ _ | refine Below.drew ?_ | refine bel_drewN ?_ _ | refine Below.setCell ?_ (by first | omega | (simp; done) | (simp; omega)) _ | refine Below.alloc ?_ (by first | omega | (simp; done) | (simp; omega)) _ | refine bel_of ?_ (by assumption)))⟩
  · rw [show witB a n b m = false by simp [witB, h]]
    have h' : (chk a n == 0) = false := by simpa using h
    go_enter Tryz.func64, Tryz.ntmps64
    go_wp2_with (go_at_call 60; refine (rcheck_any a n _ ha).mono ?_; rintro e w1 ⟨rfl, hb1⟩; obtain ⟨hc1, hf1⟩ := bcell hb1; have hz1 := hb1.size; (try simp at hz1); (try (have hl10 : w.heap.size < w1.heap.size := (by omega))); (try (have hl11 : w.heap.size + 1 < w1.heap.size := (by omega))); (try (have hl12 : w.heap.size + 1 + 1 < w1.heap.size := (by omega))); (try (have hl13 : w.heap.size + 1 + 1 + 1 < w1.heap.size := (by omega))))
    go_ret
    exact ⟨rfl, by (repeat (first | assumption | exact Below.refl _ _ | refine Below.drew ?_ | refine bel_drewN ?_ _ | refine Below.setCell ?_ (by first | omega | (simp; done) | (simp; omega)) _ | refine Below.alloc ?_ (by first | omega | (simp; done) | (simp; omega)) _ | refine bel_of ?_ (by assumption)))⟩
end Go.Proofs.YtgidohnikggjfaaGreat.Pf
