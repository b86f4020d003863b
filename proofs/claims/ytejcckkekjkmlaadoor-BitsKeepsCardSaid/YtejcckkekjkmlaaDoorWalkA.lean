/-
  What each function of package bits, and of the document's answer, hands back: one contract a function, for every world. No memory is touched but by Text.
-/
import Derived.Test.YtejcckkekjkmlaaDoorProg
import Derived.Test.YtejcckkekjkmlaaDoorPlain
import Derived.WalkKit
import Derived.Below
import Derived.WalkSpells
import Derived.WalkLawsBesides
import Derived.Deep.QuietTactic
import Derived.BigQuiet
namespace Go.Proofs.YtejcckkekjkmlaaDoor
open Go.RowKit

theorem ret_int {k : IntKind} {a b : Int} (h : a = b) : Ending.returned (.int k a) = .returned (.int k b) := by rw [h]
theorem ret_two {k l : IntKind} {a b c d : Int} (h : a = b) (h' : c = d) : Ending.returned (.tuple #[.int k a, .int l c]) = .returned (.tuple #[.int k b, .int l d]) := by rw [h, h']

theorem single_any (i : Nat) (w : World) (hi : i ≤ 31) :
    Calls Tryd.prog 27 #[.int .i64 i] w fun e w' => e = .returned (.int .u32 ((2 : Int) ^ (31 - i))) ∧ w' = w := by
  go_enter Tryd.func27, Tryd.ntmps27
  go_wp2
  go_ret
  exact ⟨ret_int (by rw [pow_mod _ (by omega), pow_cast]), rfl⟩
theorem bit_any (a i : Nat) (w : World) (ha : a < 4294967296) (hi : i ≤ 31) :
    Calls Tryd.prog 28 #[.int .u32 a, .int .i64 i] w fun e w' => e = .returned (.int .i64 (tb a i : Int)) ∧ w' = w := by
  go_enter Tryd.func28, Tryd.ntmps28
  go_wp2
  go_ret
  exact ⟨ret_int (by rw [and_top a i ha]; exact wrap64_nat _ (by have := tb_lt a i; omega)), rfl⟩

theorem isLength_in (n : Nat) (w : World) (hn : n ≤ 32) :
    Calls Tryd.prog 26 #[.int .i64 n] w fun e w' => e = .returned (.bool true) ∧ w' = w := by
  have h1 : (0 : Int) ≤ n := by omega
  have h2 : (n : Int) ≤ 32 := by omega
  have d1 : decide ((0 : Int) ≤ n) = true := decide_eq_true h1
  have d2 : decide ((n : Int) ≤ 32) = true := decide_eq_true h2
  go_enter Tryd.func26, Tryd.ntmps26
  go_wp2
  go_ret
  exact ⟨rfl, rfl⟩
theorem isLength_out (n : Int) (w : World) (hn : n < 0 ∨ 32 < n) :
    Calls Tryd.prog 26 #[.int .i64 n] w fun e w' => e = .returned (.bool false) ∧ w' = w := by
  rcases hn with hn | hn
  · have d1 : decide ((0 : Int) ≤ n) = false := decide_eq_false (by omega)
    go_enter Tryd.func26, Tryd.ntmps26
    go_wp2
    go_ret
    exact ⟨rfl, rfl⟩
  · have d1 : decide ((0 : Int) ≤ n) = true := decide_eq_true (by omega)
    have d2 : decide (n ≤ (32 : Int)) = false := decide_eq_false (by omega)
    go_enter Tryd.func26, Tryd.ntmps26
    go_wp2
    go_ret
    exact ⟨rfl, rfl⟩

theorem high_in (n : Nat) (w : World) (hn : n ≤ 32) :
    Calls Tryd.prog 9 #[.int .i64 n] w fun e w' => e = .returned (.tuple #[.int .u32 (hiw n : Int), .int .i64 0]) ∧ w' = w := by
  go_enter Tryd.func9, Tryd.ntmps9
  go_wp2_with (go_at_call 26; refine (isLength_in n _ hn).mono ?_; rintro e w' ⟨rfl, rfl⟩)
  go_loop [4, 10] (fun x i => ∃ k : Nat, k ≤ n ∧ i = .int .i64 k ∧ x = .int .u32 (hiw k : Int)) (fun _ i => n - (intOf i).toNat)
  case atStart => exact ⟨0, Nat.zero_le _, rfl, rfl⟩
  case round =>
    obtain ⟨k, hk, rfl, rfl⟩ := hrel
    by_cases hlt : k < n
    · go_wp2_with (go_at_call 27; refine (single_any k _ (by omega)).mono ?_; rintro e w' ⟨rfl, rfl⟩)
      go_round
      case rel => exact ⟨k + 1, by omega, by go_num, by rw [or_hiw2 k (by omega)]⟩
      case measure => simp [intOf]; omega
    · go_wp2
      go_ret2
      exact ⟨ret_two (by rw [show k = n by omega]) rfl, rfl⟩
theorem high_out (n : Int) (w : World) (hn : n < 0 ∨ 32 < n) :
    Calls Tryd.prog 9 #[.int .i64 n] w fun e w' => e = .returned (.tuple #[.int .u32 0, .int .i64 1]) ∧ w' = w := by
  go_enter Tryd.func9, Tryd.ntmps9
  go_wp2_with (go_at_call 26; refine (isLength_out n _ hn).mono ?_; rintro e w' ⟨rfl, rfl⟩)
  go_ret2
  exact ⟨rfl, rfl⟩
theorem rhigh_in (n : Nat) (w : World) (hn : n ≤ 32) :
    Calls Tryd.prog 10 #[.int .i64 n] w fun e w' => e = .returned (.tuple #[.int .u32 (hiw n : Int), .int .i64 0]) ∧ w' = w := by
  go_enter Tryd.func10, Tryd.ntmps10
  go_wp2
  go_loop [4, 5] (fun x i => ∃ k : Nat, k ≤ n ∧ i = .int .i64 k ∧ x = .int .u32 (hiw k : Int)) (fun _ i => n - (intOf i).toNat)
  case atStart => exact ⟨0, Nat.zero_le _, rfl, rfl⟩
  case round =>
    obtain ⟨k, hk, rfl, rfl⟩ := hrel
    by_cases hlt : k < n
    · go_wp2
      go_round
      case rel => exact ⟨k + 1, by omega, by go_num, by rw [or_hiw' k (by omega)]⟩
      case measure => simp [intOf]; omega
    · go_wp2
      go_ret2
      exact ⟨ret_two (by rw [show k = n by omega]) rfl, rfl⟩
theorem rhigh_out (n : Int) (w : World) (hn : n < 0 ∨ 32 < n) :
    Calls Tryd.prog 10 #[.int .i64 n] w fun e w' => e = .returned (.tuple #[.int .u32 0, .int .i64 1]) ∧ w' = w := by
  rcases hn with hn | hn
  all_goals
    go_enter Tryd.func10, Tryd.ntmps10
    go_wp2
    go_ret2
    exact ⟨rfl, rfl⟩

theorem keep_in (a n : Nat) (w : World) (ha : a < 4294967296) (hn : n ≤ 32) :
    Calls Tryd.prog 12 #[.int .u32 a, .int .i64 n] w fun e w' => e = .returned (.tuple #[.int .u32 (kp a n : Int), .int .i64 0]) ∧ w' = w := by
  go_enter Tryd.func12, Tryd.ntmps12
  go_wp2_with (go_at_call 9; refine (high_in n _ hn).mono ?_; rintro e w' ⟨rfl, rfl⟩)
  go_ret2
  exact ⟨ret_two (and_hiw a n ha) rfl, rfl⟩
theorem keep_out (a : Int) (n : Int) (w : World) (hn : n < 0 ∨ 32 < n) :
    Calls Tryd.prog 12 #[.int .u32 a, .int .i64 n] w fun e w' => e = .returned (.tuple #[.int .u32 0, .int .i64 1]) ∧ w' = w := by
  go_enter Tryd.func12, Tryd.ntmps12
  go_wp2_with (go_at_call 9; refine (high_out n _ hn).mono ?_; rintro e w' ⟨rfl, rfl⟩)
  go_ret2
  exact ⟨rfl, rfl⟩
theorem rkeep_in (a n : Nat) (w : World) (ha : a < 4294967296) (hn : n ≤ 32) :
    Calls Tryd.prog 13 #[.int .u32 a, .int .i64 n] w fun e w' => e = .returned (.tuple #[.int .u32 (kp a n : Int), .int .i64 0]) ∧ w' = w := by
  go_enter Tryd.func13, Tryd.ntmps13
  go_wp2_with (go_at_call 10; refine (rhigh_in n _ hn).mono ?_; rintro e w' ⟨rfl, rfl⟩)
  go_ret2
  exact ⟨ret_two (and_hiw a n ha) rfl, rfl⟩
theorem rkeep_out (a : Int) (n : Int) (w : World) (hn : n < 0 ∨ 32 < n) :
    Calls Tryd.prog 13 #[.int .u32 a, .int .i64 n] w fun e w' => e = .returned (.tuple #[.int .u32 0, .int .i64 1]) ∧ w' = w := by
  rcases hn with hn | hn
  all_goals
    go_enter Tryd.func13, Tryd.ntmps13
    go_wp2
    go_ret2
    exact ⟨rfl, rfl⟩

theorem at_in (a i : Nat) (w : World) (ha : a < 4294967296) (hi : i ≤ 31) :
    Calls Tryd.prog 14 #[.int .u32 a, .int .i64 i] w fun e w' => e = .returned (.tuple #[.int .i64 (tb a i : Int), .int .i64 0]) ∧ w' = w := by
  go_enter Tryd.func14, Tryd.ntmps14
  go_wp2_with (go_at_call 28; refine (bit_any a i _ ha hi).mono ?_; rintro e w' ⟨rfl, rfl⟩)
  go_ret2
  exact ⟨rfl, rfl⟩
theorem at_out (a : Int) (i : Int) (w : World) (hi : i < 0 ∨ 31 < i) :
    Calls Tryd.prog 14 #[.int .u32 a, .int .i64 i] w fun e w' => e = .returned (.tuple #[.int .i64 0, .int .i64 1]) ∧ w' = w := by
  rcases hi with hi | hi
  all_goals
    go_enter Tryd.func14, Tryd.ntmps14
    go_wp2
    go_ret2
    exact ⟨rfl, rfl⟩
theorem rat_in (a i : Nat) (w : World) (ha : a < 4294967296) (hi : i ≤ 31) :
    Calls Tryd.prog 15 #[.int .u32 a, .int .i64 i] w fun e w' => e = .returned (.tuple #[.int .i64 (tb a i : Int), .int .i64 0]) ∧ w' = w := by
  go_enter Tryd.func15, Tryd.ntmps15
  go_wp2
  go_ret2
  exact ⟨ret_two (by rw [and_top a i ha]; exact wrap64_nat _ (by have := tb_lt a i; omega)) rfl, rfl⟩
theorem rat_out (a : Int) (i : Int) (w : World) (hi : i < 0 ∨ 31 < i) :
    Calls Tryd.prog 15 #[.int .u32 a, .int .i64 i] w fun e w' => e = .returned (.tuple #[.int .i64 0, .int .i64 1]) ∧ w' = w := by
  rcases hi with hi | hi
  all_goals
    go_enter Tryd.func15, Tryd.ntmps15
    go_wp2
    go_ret2
    exact ⟨rfl, rfl⟩
end Go.Proofs.YtejcckkekjkmlaaDoor
