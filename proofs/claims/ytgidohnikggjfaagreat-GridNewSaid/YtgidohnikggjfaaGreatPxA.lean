/-
  What each function of package prefix, and of the document's answer, hands back: one contract a function, for every world; each makes memory of its own alone.
-/
import Derived.Test.YtgidohnikggjfaaGreatProg
import Derived.Test.YtgidohnikggjfaaGreatPxPlain
import Derived.Test.YtgidohnikggjfaaGreatPxKin
namespace Go.Proofs.YtgidohnikggjfaaGreat.Pf
open Go.RowKit
set_option linter.unusedVariables false
set_option linter.unusedSimpArgs false

theorem isLength_in (n : Nat) (w : World) (hn : n ≤ 32) :
    Calls Tryz.prog 96 #[.int .i64 n] w fun e w' => e = .returned (.bool true) ∧ w' = w := by
  have h1 : (0 : Int) ≤ n := by omega
  have h2 : (n : Int) ≤ 32 := by omega
  have d1 : decide ((0 : Int) ≤ n) = true := decide_eq_true h1
  have d2 : decide ((n : Int) ≤ 32) = true := decide_eq_true h2
  go_enter Tryz.func96, Tryz.ntmps96
  go_wp2
  go_ret
  exact ⟨rfl, rfl⟩
theorem isLength_out (n : Int) (w : World) (hn : n < 0 ∨ 32 < n) :
    Calls Tryz.prog 96 #[.int .i64 n] w fun e w' => e = .returned (.bool false) ∧ w' = w := by
  rcases hn with hn | hn
  · have d1 : decide ((0 : Int) ≤ n) = false := decide_eq_false (by omega)
    go_enter Tryz.func96, Tryz.ntmps96
    go_wp2
    go_ret
    exact ⟨rfl, rfl⟩
  · have d1 : decide ((0 : Int) ≤ n) = true := decide_eq_true (by omega)
    have d2 : decide (n ≤ (32 : Int)) = false := decide_eq_false (by omega)
    go_enter Tryz.func96, Tryz.ntmps96
    go_wp2
    go_ret
    exact ⟨rfl, rfl⟩
theorem beyond_any (n : Nat) (w : World) (hn : n ≤ 32) :
    Calls Tryz.prog 97 #[.int .i64 n] w fun e w' => e = .returned (.int .u32 ((bk n - 1 : Nat) : Int)) ∧ w' = w := by
  go_enter Tryz.func97, Tryz.ntmps97
  go_wp2
  go_ret
  exact ⟨ret_int (shr_int n hn), rfl⟩
theorem first_any (a n : Nat) (w : World) (ha : a < 4294967296) (hn : n ≤ 32) :
    Calls Tryz.prog 79 #[.int .u32 a, .int .i64 n] w fun e w' => e = .returned (.agg #[.int .u32 (ct a n : Int), .int .i64 n]) ∧ Below w.heap.size w w' := by
  have hand := andNot_lw a n ha
  go_enter Tryz.func79, Tryz.ntmps79
  go_wp2_with (go_at_call 97; refine (beyond_any n _ hn).mono ?_; rintro e w' ⟨rfl, hw⟩; obtain rfl := hw.symm; clear hw)
  exact bodyPost_ret (v := .agg #[.int .u32 (ct a n : Int), .int .i64 n]) (by simp [results, Tryz.results79, go_sem]) rfl ⟨rfl, (Below.refl _ _).alloc (Nat.le_refl _) _⟩
theorem check_any (a : Nat) (n : Int) (w : World) (ha : a < 4294967296) :
    Calls Tryz.prog 78 #[.agg #[.int .u32 a, .int .i64 n]] w fun e w' => e = .returned (.int .i64 (chk a n)) ∧ Below w.heap.size w w' := by
  by_cases hn : n < 0 ∨ 32 < n
  · rw [chk_out a n hn]
    go_enter Tryz.func78, Tryz.ntmps78
    go_wp2_with (go_at_call 96; refine (isLength_out n _ hn).mono ?_; rintro e w' ⟨rfl, hw⟩; obtain rfl := hw.symm; clear hw)
    go_ret
    exact ⟨rfl, (Below.refl _ _).alloc (Nat.le_refl _) _⟩
  · obtain ⟨m, rfl⟩ : ∃ m : Nat, n = (m : Int) := ⟨n.toNat, by omega⟩
    have hm : m ≤ 32 := by omega
    clear hn
    have hand := and_lw a m ha
    by_cases h0 : a % bk m = 0
    · rw [chk_in a m hm h0]
      rw [h0] at hand
      clear h0
      go_enter Tryz.func78, Tryz.ntmps78
      go_wp2_with (go_at_call 96; refine (isLength_in m _ hm).mono ?_; rintro e w' ⟨rfl, hw⟩; obtain rfl := hw.symm; clear hw)
      go_quiet ((go_at_call 97; exact Calls.quiet_of_same (beyond_any m _ hm)))
      go_wp2
      go_ret
      exact ⟨rfl, bel_drewN ((Below.refl _ _).alloc (Nat.le_refl _) _) _⟩
    · rw [chk_bits a m hm h0]
      have h0' : ¬ ((a % bk m : Nat) : Int) = 0 := by omega
      have d0 : (((a % bk m : Nat) : Int) != 0) = true := by simpa using h0'
      clear h0
      go_enter Tryz.func78, Tryz.ntmps78
      go_wp2_with (go_at_call 96; refine (isLength_in m _ hm).mono ?_; rintro e w' ⟨rfl, hw⟩; obtain rfl := hw.symm; clear hw)
      go_quiet ((go_at_call 97; exact Calls.quiet_of_same (beyond_any m _ hm)))
      go_wp2
      go_ret
      exact ⟨rfl, bel_drewN ((Below.refl _ _).alloc (Nat.le_refl _) _) _⟩
end Go.Proofs.YtgidohnikggjfaaGreat.Pf
