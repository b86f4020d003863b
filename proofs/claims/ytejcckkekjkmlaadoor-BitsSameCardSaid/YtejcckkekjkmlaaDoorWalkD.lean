/-
  The document's examples hold ('awake' answers true), where the table of the ones of four bits lies in its variable; nothing that was there before the call is touched.
-/
import Derived.Test.YtejcckkekjkmlaaDoorWalkC
namespace Go.Proofs.YtejcckkekjkmlaaDoor
open Go.RowKit

set_option maxRecDepth 100000 in
theorem awake_any (w : World) (ht : Tab w) :
    Calls Tryd.prog 11 #[] w fun e w' => e = .returned (.bool true) ∧ Below w.heap.size w w' := by
  have c1 : ∀ w1 : World, Calls Tryd.prog 9 #[.int .i64 8] w1 fun e w' => e = .returned (.tuple #[.int .u32 4278190080, .int .i64 0]) ∧ w' = w1 := fun w1 => by
    have := high_in 8 w1 (by decide)
    rw [show hiw 8 = 4278190080 by decide +kernel] at this
    exact this
  have c2 : ∀ w1 : World, Calls Tryd.prog 12 #[.int .u32 3232235777, .int .i64 16] w1 fun e w' => e = .returned (.tuple #[.int .u32 3232235520, .int .i64 0]) ∧ w' = w1 := fun w1 => by
    have := keep_in 3232235777 16 w1 (by decide) (by decide)
    rw [show kp 3232235777 16 = 3232235520 by decide +kernel] at this
    exact this
  have c3 : ∀ w1 : World, Calls Tryd.prog 14 #[.int .u32 2147483648, .int .i64 0] w1 fun e w' => e = .returned (.tuple #[.int .i64 1, .int .i64 0]) ∧ w' = w1 := fun w1 => by
    have := at_in 2147483648 0 w1 (by decide) (by decide)
    rw [show tb 2147483648 0 = 1 by decide +kernel] at this
    exact this
  have c4 : ∀ w1 : World, Calls Tryd.prog 24 #[.int .u32 3221225472, .int .i64 4] w1 fun e w' => e = .returned (.tuple #[.string { data := #[49, 49, 48, 48] }, .int .i64 0]) ∧ Below w1.heap.size w1 w' := fun w1 => by
    have := text_in 3221225472 4 w1 (by decide) (by decide)
    rw [show strOfNums (signs 3221225472 4) = { data := #[49, 49, 48, 48] } by decide +kernel] at this
    exact this
  have c5 : ∀ w1 : World, Calls Tryd.prog 17 #[.int .u32 167772160, .int .u32 167772161] w1 fun e w' => e = .returned (.int .i64 31) ∧ w' = w1 := fun w1 => by
    have := same_any 167772160 167772161 w1 (by decide) (by decide)
    rw [show sm 167772160 167772161 32 0 = 31 by decide +kernel] at this
    exact this
  have c6 : ∀ w1 : World, Calls Tryd.prog 18 #[.int .u32 8] w1 fun e w' => e = .returned (.int .i64 3) ∧ w' = w1 := fun w1 => by
    have := low_any 8 w1 (by decide)
    rw [show lo 8 32 0 = 3 by decide +kernel] at this
    exact this
  have c7 : ∀ w1 : World, Below w.heap.size w w1 → Calls Tryd.prog 20 #[.int .u32 61680] w1 fun e w' => e = .returned (.int .i64 8) ∧ w' = w1 := fun w1 hb => by
    have := ones_any 61680 w1 (by decide) (ht.below hb)
    rw [show ones 61680 32 = 8 by decide +kernel] at this
    exact this
  have c8 : ∀ w1 : World, Calls Tryd.prog 22 #[.int .u32 1] w1 fun e w' => e = .returned (.int .u32 2147483648) ∧ w' = w1 := fun w1 => by
    have := turn_any 1 w1 (by decide)
    rw [show turned 1 32 = 2147483648 by decide +kernel] at this
    exact this
  clear ht
  go_enter Tryd.func11, Tryd.ntmps11
  go_wp2_with (first | (go_at_call 9; refine (c1 _).mono ?_; rintro e w' ⟨rfl, hw⟩; obtain rfl := hw.symm; clear hw) | (go_at_call 12; refine (c2 _).mono ?_; rintro e w' ⟨rfl, hw⟩; obtain rfl := hw.symm; clear hw) | (go_at_call 14; refine (c3 _).mono ?_; rintro e w' ⟨rfl, hw⟩; obtain rfl := hw.symm; clear hw) | (go_at_call 24; refine (c4 _).mono ?_; rintro e w1 ⟨rfl, hbel⟩) | (go_at_call 17; refine (c5 _).mono ?_; rintro e w' ⟨rfl, hw⟩; obtain rfl := hw.symm; clear hw) | (go_at_call 18; refine (c6 _).mono ?_; rintro e w' ⟨rfl, hw⟩; obtain rfl := hw.symm; clear hw) | (go_at_call 20; refine (c7 _ (by assumption)).mono ?_; rintro e w' ⟨rfl, hw⟩; obtain rfl := hw.symm; clear hw) | (go_at_call 22; refine (c8 _).mono ?_; rintro e w' ⟨rfl, hw⟩; obtain rfl := hw.symm; clear hw))
  go_ret
  exact ⟨rfl, by assumption⟩
end Go.Proofs.YtejcckkekjkmlaaDoor
