/-
  What each function of the document's answer hands back: Bit, one, Check, Of, Run.
-/
import Derived.Test.YtgidohnikggjfaaGreatPxB
import Derived.Deep.RegionWith
namespace Go.Proofs.YtgidohnikggjfaaGreat.Pf
open Go.RowKit
set_option linter.unusedVariables false
set_option linter.unusedSimpArgs false
attribute [local go_sem ↓] Go.wp_at_zero Go.wp_at_succ

theorem rbit_any (a i : Nat) (w : World) (ha : a < 4294967296) (hi : i ≤ 31) :
    Calls Tryz.prog 61 #[.int .u32 a, .int .i64 i] w fun e w' => e = .returned (.int .i64 (tb a i : Int)) ∧ w' = w := by
  have h0 : 0 ≤ (a : Int) / 2 ^ (31 - i) := by rw [show (a : Int) / 2 ^ (31 - i) = ((a / 2 ^ (31 - i) : Nat) : Int) by simp]; exact Int.natCast_nonneg _
  have h1 : (a : Int) / 2 ^ (31 - i) ≤ a := Int.ediv_le_self _ (by omega)
  go_enter Tryz.func61, Tryz.ntmps61
  go_wp2
  go_ret
  exact ⟨ret_int (by rw [← bit_int a i]), rfl⟩
theorem rcheck_any (a : Nat) (n : Int) (w : World) (ha : a < 4294967296) :
    Calls Tryz.prog 60 #[.agg #[.int .u32 a, .int .i64 n]] w fun e w' => e = .returned (.int .i64 (chk a n)) ∧ Below w.heap.size w w' := by
  by_cases hn : n < 0 ∨ 32 < n
  · rw [chk_out a n hn]
    by_cases h1 : n < 0
    · have d1 : decide (n < 0) = true := decide_eq_true h1
      go_enter Tryz.func60, Tryz.ntmps60
      go_wp2
      go_ret
      exact ⟨rfl, by (repeat (first | assumption | exact Below.refl _ _ | refine Below.drew ?_ | refine bel_drewN ?_ _ | refine Below.setCell ?_ (by first | omega | (simp; done) | (simp; omega)) _ | refine Below.alloc ?_ (by first | omega | (simp; done) | (simp; omega)) _ | refine bel_of ?_ (by assumption)))⟩
    · have d1 : decide (n < 0) = false := decide_eq_false h1
      have h2 : 32 < n := by omega
      have d2 : decide (32 < n) = true := decide_eq_true h2
      go_enter Tryz.func60, Tryz.ntmps60
      go_wp2
      go_ret
      exact ⟨rfl, by (repeat (first | assumption | exact Below.refl _ _ | refine Below.drew ?_ | refine bel_drewN ?_ _ | refine Below.setCell ?_ (by first | omega | (simp; done) | (simp; omega)) _ | refine Below.alloc ?_ (by first | omega | (simp; done) | (simp; omega)) _ | refine bel_of ?_ (by assumption)))⟩
  · obtain ⟨m, rfl⟩ : ∃ m : Nat, n = (m : Int) := ⟨n.toNat, by omega⟩
    have hm : m ≤ 32 := by omega
    have d1 : decide ((m : Int) < 0) = false := decide_eq_false (by omega)
    have d2 : decide ((32 : Int) < m) = false := decide_eq_false (by omega)
    clear hn
    go_enter Tryz.func60, Tryz.ntmps60
    go_wp2
    go_loop [3] (fun i => ∃ k : Nat, m ≤ k ∧ k ≤ 32 ∧ i = .int .i64 k ∧ a % bk m = a % bk k) (fun i => 32 - (intOf i).toNat)
    case atStart => exact ⟨m, Nat.le_refl _, hm, rfl, rfl⟩
    case round =>
      obtain ⟨k, hmk, hk, rfl, hmod⟩ := hrel
      have HM : Hid (a % bk m = a % bk k) := hmod
      clear hmod
      by_cases hlt : k < 32
      · have hst : Hid (_) := mod_step a k hlt
        have htl := tb_lt a k
        by_cases ht : tb a k = 1
        · have ht' : (tb a k : Int) = 1 := by omega
          have hne : Hid (chk a m = 21) := chk_bits a m hm (by rw [HM.out, hst.out, ht]; have := bk_pos (k + 1); omega)
          go_wp2_with (go_at_call 61; refine (rbit_any a k _ ha (by omega)).mono ?_; rintro e w' ⟨rfl, hw⟩; obtain rfl := hw.symm; clear hw)
          go_ret
          exact ⟨ret_int hne.out.symm, by (repeat (first | assumption | exact Below.refl _ _ | refine Below.drew ?_ | refine bel_drewN ?_ _ | refine Below.setCell ?_ (by first | omega | (simp; done) | (simp; omega)) _ | refine Below.alloc ?_ (by first | omega | (simp; done) | (simp; omega)) _ | refine bel_of ?_ (by assumption)))⟩
        · have ht' : ¬ (tb a k : Int) = 1 := by omega
          have ht0 : Hid (tb a k = 0) := (show tb a k = 0 by omega)
          go_wp2_with (go_at_call 61; refine (rbit_any a k _ ha (by omega)).mono ?_; rintro e w' ⟨rfl, hw⟩; obtain rfl := hw.symm; clear hw)
          go_round
          case rel => exact ⟨k + 1, by omega, by omega, by go_num, by rw [HM.out, hst.out, ht0.out]; omega⟩
          case measure => simp [intOf]; omega
      · obtain rfl : k = 32 := by omega
        have hz : Hid (chk a m = 0) := chk_in a m hm (by rw [HM.out, bk_32]; omega)
        go_wp2
        go_ret
        exact ⟨ret_int hz.out.symm, by (repeat (first | assumption | exact Below.refl _ _ | refine Below.drew ?_ | refine bel_drewN ?_ _ | refine Below.setCell ?_ (by first | omega | (simp; done) | (simp; omega)) _ | refine Below.alloc ?_ (by first | omega | (simp; done) | (simp; omega)) _ | refine bel_of ?_ (by assumption)))⟩
end Go.Proofs.YtgidohnikggjfaaGreat.Pf
