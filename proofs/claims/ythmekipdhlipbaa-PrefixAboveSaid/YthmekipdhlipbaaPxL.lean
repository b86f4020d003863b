/-
  How many bits a word has (math/bits), by the library's own text.
-/
import Derived.Test.YthmekipdhlipbaaPxC
namespace Go.Proofs.Ythmekipdhlipbaa
open Go.RowKit
set_option linter.unusedVariables false
set_option linter.unusedSimpArgs false
attribute [local go_sem ↓] Go.wp_at_zero Go.wp_at_succ

set_option maxRecDepth 1000000 in
set_option maxHeartbeats 1000000 in
theorem len32_any (x : Nat) (w : World) (hx : x < 4294967296) :
    Calls Try.prog 70 #[.int .u32 x] w fun e w' => e = .returned (.int .i64 (bl x : Int)) ∧ w' = w := by
  by_cases h1 : 65536 ≤ x
  · have h1' : (65536 : Int) ≤ x := by omega
    have e1 : bl x = 16 + bl (x / 65536) := bl_shift x 16 h1
    by_cases h2 : 256 ≤ x / 65536
    · have h2' : (256 : Int) ≤ (x : Int) / 65536 := by omega
      have e2 : bl (x / 65536) = 8 + bl (x / 65536 / 256) := bl_shift _ 8 h2
      have e3 := bl_32 x hx
      have HE : Hid (bl x = 16 + (8 + bl (x / 65536 / 256)) ∧ bl x ≤ 32) := ⟨by rw [e1, e2], e3⟩
      clear e1 e2 e3
      go_enter Try.func70, Try.ntmps70
      go_wp2
      go_ret
      refine ⟨ret_int ?_, rfl⟩
      rw [tab_at]
      · obtain ⟨e1, e2⟩ := HE.out
        unfold wrap64; omega
      · rfl
      · omega
    · have h2' : ¬ (256 : Int) ≤ (x : Int) / 65536 := by omega
      have e3 := bl_32 x hx
      have HE : Hid (bl x = 16 + bl (x / 65536) ∧ bl x ≤ 32) := ⟨e1, e3⟩
      clear e1 e3
      go_enter Try.func70, Try.ntmps70
      go_wp2
      go_ret
      refine ⟨ret_int ?_, rfl⟩
      rw [tab_at]
      · obtain ⟨e1, e2⟩ := HE.out
        unfold wrap64; omega
      · rfl
      · omega
  · have h1' : ¬ (65536 : Int) ≤ x := by omega
    by_cases h2 : 256 ≤ x
    · have h2' : (256 : Int) ≤ (x : Int) := by omega
      have e2 : bl x = 8 + bl (x / 256) := bl_shift _ 8 h2
      have e3 := bl_32 x hx
      have HE : Hid (bl x = 8 + bl (x / 256) ∧ bl x ≤ 32) := ⟨e2, e3⟩
      clear e2 e3
      go_enter Try.func70, Try.ntmps70
      go_wp2
      go_ret
      refine ⟨ret_int ?_, rfl⟩
      rw [tab_at]
      · obtain ⟨e1, e2⟩ := HE.out
        unfold wrap64; omega
      · rfl
      · omega
    · have h2' : ¬ (256 : Int) ≤ (x : Int) := by omega
      have HE : Hid (bl x ≤ 32) := bl_32 x hx
      go_enter Try.func70, Try.ntmps70
      go_wp2
      go_ret
      refine ⟨ret_int ?_, rfl⟩
      rw [tab_at]
      · have e2 := HE.out
        unfold wrap64; omega
      · rfl
      · omega
end Go.Proofs.Ythmekipdhlipbaa
