/-
  HeaderPairs, out of what the functions of header hand back.
-/
import Derived.Test.YtpgadbiohmofeaaHdAw
namespace Go.Proofs.Ytpgadbiohmofeaa
open Go.RowKit
set_option linter.unusedVariables false
set_option linter.unusedSimpArgs false

set_option maxHeartbeats 1000000 in
theorem headerPairs_core (hC : CmpC) (hD : DifC) (hA : ∀ w : World, Calls Try.prog 9 #[] w fun e w' => e = .returned (.bool true) ∧ Below w.heap.size w w') (a b : Hd) (oa : OkH a) (ob : OkH b) (w : World) :
    Calls Try.prog 5 #[.agg #[.int .u32 (a.s : Int), .int .u32 (a.d : Int), .int .u16 (a.p : Int), .int .u16 (a.q : Int), .int .u8 (a.r : Int)], .agg #[.int .u32 (b.s : Int), .int .u32 (b.d : Int), .int .u16 (b.p : Int), .int .u16 (b.q : Int), .int .u8 (b.r : Int)]] w fun e w' => e = .returned (.bool true) ∧ Below w.heap.size w w' := by
  have e1 := cmp_self a
  have e2 := difH_self a
  go_enter Try.func5, Try.ntmps5
  go_wp2_with (fail)
  have kne : Nonempty (Kin ((w.alloc (.cells #[.int .u32 (a.s : Int), .int .u32 (a.d : Int), .int .u16 (a.p : Int), .int .u16 (a.q : Int), .int .u8 (a.r : Int)] 25)).alloc (.cells #[.int .u32 (b.s : Int), .int .u32 (b.d : Int), .int .u16 (b.p : Int), .int .u16 (b.q : Int), .int .u8 (b.r : Int)] 25))) := ⟨⟨_, Below.refl _ _⟩⟩
  have kc0 : ∀ y : Kin ((w.alloc (.cells #[.int .u32 (a.s : Int), .int .u32 (a.d : Int), .int .u16 (a.p : Int), .int .u16 (a.q : Int), .int .u8 (a.r : Int)] 25)).alloc (.cells #[.int .u32 (b.s : Int), .int .u32 (b.d : Int), .int .u16 (b.p : Int), .int .u16 (b.q : Int), .int .u8 (b.r : Int)] 25)), y.val.cell? ⟨w.heap.size, 0, none⟩ = some (.int .u32 (a.s : Int)) := fun y => cell_on y.is (show ((w.alloc (.cells #[.int .u32 (a.s : Int), .int .u32 (a.d : Int), .int .u16 (a.p : Int), .int .u16 (a.q : Int), .int .u8 (a.r : Int)] 25)).alloc (.cells #[.int .u32 (b.s : Int), .int .u32 (b.d : Int), .int .u16 (b.p : Int), .int .u16 (b.q : Int), .int .u8 (b.r : Int)] 25)).cell? ⟨w.heap.size, 0, none⟩ = some (.int .u32 (a.s : Int)) from by simp [go_sem])
  have kc1 : ∀ y : Kin ((w.alloc (.cells #[.int .u32 (a.s : Int), .int .u32 (a.d : Int), .int .u16 (a.p : Int), .int .u16 (a.q : Int), .int .u8 (a.r : Int)] 25)).alloc (.cells #[.int .u32 (b.s : Int), .int .u32 (b.d : Int), .int .u16 (b.p : Int), .int .u16 (b.q : Int), .int .u8 (b.r : Int)] 25)), y.val.cell? ⟨w.heap.size, 1, none⟩ = some (.int .u32 (a.d : Int)) := fun y => cell_on y.is (show ((w.alloc (.cells #[.int .u32 (a.s : Int), .int .u32 (a.d : Int), .int .u16 (a.p : Int), .int .u16 (a.q : Int), .int .u8 (a.r : Int)] 25)).alloc (.cells #[.int .u32 (b.s : Int), .int .u32 (b.d : Int), .int .u16 (b.p : Int), .int .u16 (b.q : Int), .int .u8 (b.r : Int)] 25)).cell? ⟨w.heap.size, 1, none⟩ = some (.int .u32 (a.d : Int)) from by simp [go_sem])
  have kc2 : ∀ y : Kin ((w.alloc (.cells #[.int .u32 (a.s : Int), .int .u32 (a.d : Int), .int .u16 (a.p : Int), .int .u16 (a.q : Int), .int .u8 (a.r : Int)] 25)).alloc (.cells #[.int .u32 (b.s : Int), .int .u32 (b.d : Int), .int .u16 (b.p : Int), .int .u16 (b.q : Int), .int .u8 (b.r : Int)] 25)), y.val.cell? ⟨w.heap.size, 2, none⟩ = some (.int .u16 (a.p : Int)) := fun y => cell_on y.is (show ((w.alloc (.cells #[.int .u32 (a.s : Int), .int .u32 (a.d : Int), .int .u16 (a.p : Int), .int .u16 (a.q : Int), .int .u8 (a.r : Int)] 25)).alloc (.cells #[.int .u32 (b.s : Int), .int .u32 (b.d : Int), .int .u16 (b.p : Int), .int .u16 (b.q : Int), .int .u8 (b.r : Int)] 25)).cell? ⟨w.heap.size, 2, none⟩ = some (.int .u16 (a.p : Int)) from by simp [go_sem])
  have kc3 : ∀ y : Kin ((w.alloc (.cells #[.int .u32 (a.s : Int), .int .u32 (a.d : Int), .int .u16 (a.p : Int), .int .u16 (a.q : Int), .int .u8 (a.r : Int)] 25)).alloc (.cells #[.int .u32 (b.s : Int), .int .u32 (b.d : Int), .int .u16 (b.p : Int), .int .u16 (b.q : Int), .int .u8 (b.r : Int)] 25)), y.val.cell? ⟨w.heap.size, 3, none⟩ = some (.int .u16 (a.q : Int)) := fun y => cell_on y.is (show ((w.alloc (.cells #[.int .u32 (a.s : Int), .int .u32 (a.d : Int), .int .u16 (a.p : Int), .int .u16 (a.q : Int), .int .u8 (a.r : Int)] 25)).alloc (.cells #[.int .u32 (b.s : Int), .int .u32 (b.d : Int), .int .u16 (b.p : Int), .int .u16 (b.q : Int), .int .u8 (b.r : Int)] 25)).cell? ⟨w.heap.size, 3, none⟩ = some (.int .u16 (a.q : Int)) from by simp [go_sem])
  have kc4 : ∀ y : Kin ((w.alloc (.cells #[.int .u32 (a.s : Int), .int .u32 (a.d : Int), .int .u16 (a.p : Int), .int .u16 (a.q : Int), .int .u8 (a.r : Int)] 25)).alloc (.cells #[.int .u32 (b.s : Int), .int .u32 (b.d : Int), .int .u16 (b.p : Int), .int .u16 (b.q : Int), .int .u8 (b.r : Int)] 25)), y.val.cell? ⟨w.heap.size, 4, none⟩ = some (.int .u8 (a.r : Int)) := fun y => cell_on y.is (show ((w.alloc (.cells #[.int .u32 (a.s : Int), .int .u32 (a.d : Int), .int .u16 (a.p : Int), .int .u16 (a.q : Int), .int .u8 (a.r : Int)] 25)).alloc (.cells #[.int .u32 (b.s : Int), .int .u32 (b.d : Int), .int .u16 (b.p : Int), .int .u16 (b.q : Int), .int .u8 (b.r : Int)] 25)).cell? ⟨w.heap.size, 4, none⟩ = some (.int .u8 (a.r : Int)) from by simp [go_sem])
  have kc5 : ∀ y : Kin ((w.alloc (.cells #[.int .u32 (a.s : Int), .int .u32 (a.d : Int), .int .u16 (a.p : Int), .int .u16 (a.q : Int), .int .u8 (a.r : Int)] 25)).alloc (.cells #[.int .u32 (b.s : Int), .int .u32 (b.d : Int), .int .u16 (b.p : Int), .int .u16 (b.q : Int), .int .u8 (b.r : Int)] 25)), y.val.cell? ⟨w.heap.size + 1, 0, none⟩ = some (.int .u32 (b.s : Int)) := fun y => cell_on y.is (show ((w.alloc (.cells #[.int .u32 (a.s : Int), .int .u32 (a.d : Int), .int .u16 (a.p : Int), .int .u16 (a.q : Int), .int .u8 (a.r : Int)] 25)).alloc (.cells #[.int .u32 (b.s : Int), .int .u32 (b.d : Int), .int .u16 (b.p : Int), .int .u16 (b.q : Int), .int .u8 (b.r : Int)] 25)).cell? ⟨w.heap.size + 1, 0, none⟩ = some (.int .u32 (b.s : Int)) from by simp [go_sem])
  have kc6 : ∀ y : Kin ((w.alloc (.cells #[.int .u32 (a.s : Int), .int .u32 (a.d : Int), .int .u16 (a.p : Int), .int .u16 (a.q : Int), .int .u8 (a.r : Int)] 25)).alloc (.cells #[.int .u32 (b.s : Int), .int .u32 (b.d : Int), .int .u16 (b.p : Int), .int .u16 (b.q : Int), .int .u8 (b.r : Int)] 25)), y.val.cell? ⟨w.heap.size + 1, 1, none⟩ = some (.int .u32 (b.d : Int)) := fun y => cell_on y.is (show ((w.alloc (.cells #[.int .u32 (a.s : Int), .int .u32 (a.d : Int), .int .u16 (a.p : Int), .int .u16 (a.q : Int), .int .u8 (a.r : Int)] 25)).alloc (.cells #[.int .u32 (b.s : Int), .int .u32 (b.d : Int), .int .u16 (b.p : Int), .int .u16 (b.q : Int), .int .u8 (b.r : Int)] 25)).cell? ⟨w.heap.size + 1, 1, none⟩ = some (.int .u32 (b.d : Int)) from by simp [go_sem])
  have kc7 : ∀ y : Kin ((w.alloc (.cells #[.int .u32 (a.s : Int), .int .u32 (a.d : Int), .int .u16 (a.p : Int), .int .u16 (a.q : Int), .int .u8 (a.r : Int)] 25)).alloc (.cells #[.int .u32 (b.s : Int), .int .u32 (b.d : Int), .int .u16 (b.p : Int), .int .u16 (b.q : Int), .int .u8 (b.r : Int)] 25)), y.val.cell? ⟨w.heap.size + 1, 2, none⟩ = some (.int .u16 (b.p : Int)) := fun y => cell_on y.is (show ((w.alloc (.cells #[.int .u32 (a.s : Int), .int .u32 (a.d : Int), .int .u16 (a.p : Int), .int .u16 (a.q : Int), .int .u8 (a.r : Int)] 25)).alloc (.cells #[.int .u32 (b.s : Int), .int .u32 (b.d : Int), .int .u16 (b.p : Int), .int .u16 (b.q : Int), .int .u8 (b.r : Int)] 25)).cell? ⟨w.heap.size + 1, 2, none⟩ = some (.int .u16 (b.p : Int)) from by simp [go_sem])
  have kc8 : ∀ y : Kin ((w.alloc (.cells #[.int .u32 (a.s : Int), .int .u32 (a.d : Int), .int .u16 (a.p : Int), .int .u16 (a.q : Int), .int .u8 (a.r : Int)] 25)).alloc (.cells #[.int .u32 (b.s : Int), .int .u32 (b.d : Int), .int .u16 (b.p : Int), .int .u16 (b.q : Int), .int .u8 (b.r : Int)] 25)), y.val.cell? ⟨w.heap.size + 1, 3, none⟩ = some (.int .u16 (b.q : Int)) := fun y => cell_on y.is (show ((w.alloc (.cells #[.int .u32 (a.s : Int), .int .u32 (a.d : Int), .int .u16 (a.p : Int), .int .u16 (a.q : Int), .int .u8 (a.r : Int)] 25)).alloc (.cells #[.int .u32 (b.s : Int), .int .u32 (b.d : Int), .int .u16 (b.p : Int), .int .u16 (b.q : Int), .int .u8 (b.r : Int)] 25)).cell? ⟨w.heap.size + 1, 3, none⟩ = some (.int .u16 (b.q : Int)) from by simp [go_sem])
  have kc9 : ∀ y : Kin ((w.alloc (.cells #[.int .u32 (a.s : Int), .int .u32 (a.d : Int), .int .u16 (a.p : Int), .int .u16 (a.q : Int), .int .u8 (a.r : Int)] 25)).alloc (.cells #[.int .u32 (b.s : Int), .int .u32 (b.d : Int), .int .u16 (b.p : Int), .int .u16 (b.q : Int), .int .u8 (b.r : Int)] 25)), y.val.cell? ⟨w.heap.size + 1, 4, none⟩ = some (.int .u8 (b.r : Int)) := fun y => cell_on y.is (show ((w.alloc (.cells #[.int .u32 (a.s : Int), .int .u32 (a.d : Int), .int .u16 (a.p : Int), .int .u16 (a.q : Int), .int .u8 (a.r : Int)] 25)).alloc (.cells #[.int .u32 (b.s : Int), .int .u32 (b.d : Int), .int .u16 (b.p : Int), .int .u16 (b.q : Int), .int .u8 (b.r : Int)] 25)).cell? ⟨w.heap.size + 1, 4, none⟩ = some (.int .u8 (b.r : Int)) from by simp [go_sem])
  refine wp_region_kin ((w.alloc (.cells #[.int .u32 (a.s : Int), .int .u32 (a.d : Int), .int .u16 (a.p : Int), .int .u16 (a.q : Int), .int .u8 (a.r : Int)] 25)).alloc (.cells #[.int .u32 (b.s : Int), .int .u32 (b.d : Int), .int .u16 (b.p : Int), .int .u16 (b.q : Int), .int .u8 (b.r : Int)] 25)) (Below.refl _ _) (by kernel_rfl) (by kernel_rfl) ?_
  repeat (go_big_quiet_step (first | (go_at_call 19; exact kin_call (hC _ _ _ (by assumption) (by assumption))) | (go_at_call 20; exact kin_call (rCmpT _ _ _ (by assumption) (by assumption)))))
  refine wpQuiet_nil ?_
  rintro w1 ⟨⟨xq, hxq⟩, hyq⟩
  have hb1 : Below ((w.alloc (.cells #[.int .u32 (a.s : Int), .int .u32 (a.d : Int), .int .u16 (a.p : Int), .int .u16 (a.q : Int), .int .u8 (a.r : Int)] 25)).alloc (.cells #[.int .u32 (b.s : Int), .int .u32 (b.d : Int), .int .u16 (b.p : Int), .int .u16 (b.q : Int), .int .u8 (b.r : Int)] 25)).heap.size ((w.alloc (.cells #[.int .u32 (a.s : Int), .int .u32 (a.d : Int), .int .u16 (a.p : Int), .int .u16 (a.q : Int), .int .u8 (a.r : Int)] 25)).alloc (.cells #[.int .u32 (b.s : Int), .int .u32 (b.d : Int), .int .u16 (b.p : Int), .int .u16 (b.q : Int), .int .u8 (b.r : Int)] 25)) w1 := by rw [hyq]; exact hxq
  clear hyq hxq xq
  clear kne kc0 kc1 kc2 kc3 kc4 kc5 kc6 kc7 kc8 kc9
  have hz1 := hb1.size
  (try simp at hz1)
  have a0_1 : w1.cell? ⟨w.heap.size, 0, none⟩ = some (.int .u32 (a.s : Int)) := cell_on hb1 (show ((w.alloc (.cells #[.int .u32 (a.s : Int), .int .u32 (a.d : Int), .int .u16 (a.p : Int), .int .u16 (a.q : Int), .int .u8 (a.r : Int)] 25)).alloc (.cells #[.int .u32 (b.s : Int), .int .u32 (b.d : Int), .int .u16 (b.p : Int), .int .u16 (b.q : Int), .int .u8 (b.r : Int)] 25)).cell? ⟨w.heap.size, 0, none⟩ = some (.int .u32 (a.s : Int)) from by simp [go_sem])
  have a1_1 : w1.cell? ⟨w.heap.size, 1, none⟩ = some (.int .u32 (a.d : Int)) := cell_on hb1 (show ((w.alloc (.cells #[.int .u32 (a.s : Int), .int .u32 (a.d : Int), .int .u16 (a.p : Int), .int .u16 (a.q : Int), .int .u8 (a.r : Int)] 25)).alloc (.cells #[.int .u32 (b.s : Int), .int .u32 (b.d : Int), .int .u16 (b.p : Int), .int .u16 (b.q : Int), .int .u8 (b.r : Int)] 25)).cell? ⟨w.heap.size, 1, none⟩ = some (.int .u32 (a.d : Int)) from by simp [go_sem])
  have a2_1 : w1.cell? ⟨w.heap.size, 2, none⟩ = some (.int .u16 (a.p : Int)) := cell_on hb1 (show ((w.alloc (.cells #[.int .u32 (a.s : Int), .int .u32 (a.d : Int), .int .u16 (a.p : Int), .int .u16 (a.q : Int), .int .u8 (a.r : Int)] 25)).alloc (.cells #[.int .u32 (b.s : Int), .int .u32 (b.d : Int), .int .u16 (b.p : Int), .int .u16 (b.q : Int), .int .u8 (b.r : Int)] 25)).cell? ⟨w.heap.size, 2, none⟩ = some (.int .u16 (a.p : Int)) from by simp [go_sem])
  have a3_1 : w1.cell? ⟨w.heap.size, 3, none⟩ = some (.int .u16 (a.q : Int)) := cell_on hb1 (show ((w.alloc (.cells #[.int .u32 (a.s : Int), .int .u32 (a.d : Int), .int .u16 (a.p : Int), .int .u16 (a.q : Int), .int .u8 (a.r : Int)] 25)).alloc (.cells #[.int .u32 (b.s : Int), .int .u32 (b.d : Int), .int .u16 (b.p : Int), .int .u16 (b.q : Int), .int .u8 (b.r : Int)] 25)).cell? ⟨w.heap.size, 3, none⟩ = some (.int .u16 (a.q : Int)) from by simp [go_sem])
  have a4_1 : w1.cell? ⟨w.heap.size, 4, none⟩ = some (.int .u8 (a.r : Int)) := cell_on hb1 (show ((w.alloc (.cells #[.int .u32 (a.s : Int), .int .u32 (a.d : Int), .int .u16 (a.p : Int), .int .u16 (a.q : Int), .int .u8 (a.r : Int)] 25)).alloc (.cells #[.int .u32 (b.s : Int), .int .u32 (b.d : Int), .int .u16 (b.p : Int), .int .u16 (b.q : Int), .int .u8 (b.r : Int)] 25)).cell? ⟨w.heap.size, 4, none⟩ = some (.int .u8 (a.r : Int)) from by simp [go_sem])
  have b0_1 : w1.cell? ⟨w.heap.size + 1, 0, none⟩ = some (.int .u32 (b.s : Int)) := cell_on hb1 (show ((w.alloc (.cells #[.int .u32 (a.s : Int), .int .u32 (a.d : Int), .int .u16 (a.p : Int), .int .u16 (a.q : Int), .int .u8 (a.r : Int)] 25)).alloc (.cells #[.int .u32 (b.s : Int), .int .u32 (b.d : Int), .int .u16 (b.p : Int), .int .u16 (b.q : Int), .int .u8 (b.r : Int)] 25)).cell? ⟨w.heap.size + 1, 0, none⟩ = some (.int .u32 (b.s : Int)) from by simp [go_sem])
  have b1_1 : w1.cell? ⟨w.heap.size + 1, 1, none⟩ = some (.int .u32 (b.d : Int)) := cell_on hb1 (show ((w.alloc (.cells #[.int .u32 (a.s : Int), .int .u32 (a.d : Int), .int .u16 (a.p : Int), .int .u16 (a.q : Int), .int .u8 (a.r : Int)] 25)).alloc (.cells #[.int .u32 (b.s : Int), .int .u32 (b.d : Int), .int .u16 (b.p : Int), .int .u16 (b.q : Int), .int .u8 (b.r : Int)] 25)).cell? ⟨w.heap.size + 1, 1, none⟩ = some (.int .u32 (b.d : Int)) from by simp [go_sem])
  have b2_1 : w1.cell? ⟨w.heap.size + 1, 2, none⟩ = some (.int .u16 (b.p : Int)) := cell_on hb1 (show ((w.alloc (.cells #[.int .u32 (a.s : Int), .int .u32 (a.d : Int), .int .u16 (a.p : Int), .int .u16 (a.q : Int), .int .u8 (a.r : Int)] 25)).alloc (.cells #[.int .u32 (b.s : Int), .int .u32 (b.d : Int), .int .u16 (b.p : Int), .int .u16 (b.q : Int), .int .u8 (b.r : Int)] 25)).cell? ⟨w.heap.size + 1, 2, none⟩ = some (.int .u16 (b.p : Int)) from by simp [go_sem])
  have b3_1 : w1.cell? ⟨w.heap.size + 1, 3, none⟩ = some (.int .u16 (b.q : Int)) := cell_on hb1 (show ((w.alloc (.cells #[.int .u32 (a.s : Int), .int .u32 (a.d : Int), .int .u16 (a.p : Int), .int .u16 (a.q : Int), .int .u8 (a.r : Int)] 25)).alloc (.cells #[.int .u32 (b.s : Int), .int .u32 (b.d : Int), .int .u16 (b.p : Int), .int .u16 (b.q : Int), .int .u8 (b.r : Int)] 25)).cell? ⟨w.heap.size + 1, 3, none⟩ = some (.int .u16 (b.q : Int)) from by simp [go_sem])
  have b4_1 : w1.cell? ⟨w.heap.size + 1, 4, none⟩ = some (.int .u8 (b.r : Int)) := cell_on hb1 (show ((w.alloc (.cells #[.int .u32 (a.s : Int), .int .u32 (a.d : Int), .int .u16 (a.p : Int), .int .u16 (a.q : Int), .int .u8 (a.r : Int)] 25)).alloc (.cells #[.int .u32 (b.s : Int), .int .u32 (b.d : Int), .int .u16 (b.p : Int), .int .u16 (b.q : Int), .int .u8 (b.r : Int)] 25)).cell? ⟨w.heap.size + 1, 4, none⟩ = some (.int .u8 (b.r : Int)) from by simp [go_sem])
  have hg1_0 : w.heap.size < w1.heap.size := by omega
  have hg1_1 : w.heap.size + 1 < w1.heap.size := by omega
  have hl1 : w.heap.size ≤ w1.heap.size := by omega
  have hw1 : Hid (Below w.heap.size w w1) := (((Below.refl _ _).alloc (by first | omega | (simp; done) | (simp; omega)) _).alloc (by first | omega | (simp; done) | (simp; omega)) _).trans (hb1.mono (by first | omega | (simp; done) | (simp; omega)))
  clear hb1
  go_wp2_with (fail)
  have kne : Nonempty (Kin w1) := ⟨⟨_, Below.refl _ _⟩⟩
  have kc0 : ∀ y : Kin w1, y.val.cell? ⟨w.heap.size, 0, none⟩ = some (.int .u32 (a.s : Int)) := fun y => cell_on y.is a0_1
  have kc1 : ∀ y : Kin w1, y.val.cell? ⟨w.heap.size, 1, none⟩ = some (.int .u32 (a.d : Int)) := fun y => cell_on y.is a1_1
  have kc2 : ∀ y : Kin w1, y.val.cell? ⟨w.heap.size, 2, none⟩ = some (.int .u16 (a.p : Int)) := fun y => cell_on y.is a2_1
  have kc3 : ∀ y : Kin w1, y.val.cell? ⟨w.heap.size, 3, none⟩ = some (.int .u16 (a.q : Int)) := fun y => cell_on y.is a3_1
  have kc4 : ∀ y : Kin w1, y.val.cell? ⟨w.heap.size, 4, none⟩ = some (.int .u8 (a.r : Int)) := fun y => cell_on y.is a4_1
  have kc5 : ∀ y : Kin w1, y.val.cell? ⟨w.heap.size + 1, 0, none⟩ = some (.int .u32 (b.s : Int)) := fun y => cell_on y.is b0_1
  have kc6 : ∀ y : Kin w1, y.val.cell? ⟨w.heap.size + 1, 1, none⟩ = some (.int .u32 (b.d : Int)) := fun y => cell_on y.is b1_1
  have kc7 : ∀ y : Kin w1, y.val.cell? ⟨w.heap.size + 1, 2, none⟩ = some (.int .u16 (b.p : Int)) := fun y => cell_on y.is b2_1
  have kc8 : ∀ y : Kin w1, y.val.cell? ⟨w.heap.size + 1, 3, none⟩ = some (.int .u16 (b.q : Int)) := fun y => cell_on y.is b3_1
  have kc9 : ∀ y : Kin w1, y.val.cell? ⟨w.heap.size + 1, 4, none⟩ = some (.int .u8 (b.r : Int)) := fun y => cell_on y.is b4_1
  refine wp_region_kin w1 (Below.refl _ _) (by kernel_rfl) (by kernel_rfl) ?_
  repeat (go_big_quiet_step (first | (go_at_call 21; exact kin_call (hD _ _ _ (by assumption) (by assumption))) | (go_at_call 22; exact kin_call (rDifT _ _ _ (by assumption) (by assumption)))))
  refine wpQuiet_nil ?_
  rintro w2 ⟨⟨xq, hxq⟩, hyq⟩
  have hb2 : Below w1.heap.size w1 w2 := by rw [hyq]; exact hxq
  clear hyq hxq xq
  clear kne kc0 kc1 kc2 kc3 kc4 kc5 kc6 kc7 kc8 kc9
  have hz2 := hb2.size
  (try simp at hz2)
  have a0_2 : w2.cell? ⟨w.heap.size, 0, none⟩ = some (.int .u32 (a.s : Int)) := cell_on hb2 a0_1
  have a1_2 : w2.cell? ⟨w.heap.size, 1, none⟩ = some (.int .u32 (a.d : Int)) := cell_on hb2 a1_1
  have a2_2 : w2.cell? ⟨w.heap.size, 2, none⟩ = some (.int .u16 (a.p : Int)) := cell_on hb2 a2_1
  have a3_2 : w2.cell? ⟨w.heap.size, 3, none⟩ = some (.int .u16 (a.q : Int)) := cell_on hb2 a3_1
  have a4_2 : w2.cell? ⟨w.heap.size, 4, none⟩ = some (.int .u8 (a.r : Int)) := cell_on hb2 a4_1
  have b0_2 : w2.cell? ⟨w.heap.size + 1, 0, none⟩ = some (.int .u32 (b.s : Int)) := cell_on hb2 b0_1
  have b1_2 : w2.cell? ⟨w.heap.size + 1, 1, none⟩ = some (.int .u32 (b.d : Int)) := cell_on hb2 b1_1
  have b2_2 : w2.cell? ⟨w.heap.size + 1, 2, none⟩ = some (.int .u16 (b.p : Int)) := cell_on hb2 b2_1
  have b3_2 : w2.cell? ⟨w.heap.size + 1, 3, none⟩ = some (.int .u16 (b.q : Int)) := cell_on hb2 b3_1
  have b4_2 : w2.cell? ⟨w.heap.size + 1, 4, none⟩ = some (.int .u8 (b.r : Int)) := cell_on hb2 b4_1
  have hg2_0 : w.heap.size < w2.heap.size := by omega
  have hg2_1 : w.heap.size + 1 < w2.heap.size := by omega
  have hl2 : w.heap.size ≤ w2.heap.size := by omega
  have hw2 : Hid (Below w.heap.size w w2) := hw1.out.trans (hb2.mono (by first | omega | (simp; done) | (simp; omega)))
  clear hb2 a0_1 a1_1 a2_1 a3_1 a4_1 b0_1 b1_1 b2_1 b3_1 b4_1 hg1_0 hg1_1 hw1
  go_wp2_with (fail)
  refine (hA _).mono ?_
  rintro e w3 ⟨rfl, hb3⟩
  have hz3 := hb3.size
  (try simp at hz3)
  have a0_3 : w3.cell? ⟨w.heap.size, 0, none⟩ = some (.int .u32 (a.s : Int)) := cell_on hb3 a0_2
  have a1_3 : w3.cell? ⟨w.heap.size, 1, none⟩ = some (.int .u32 (a.d : Int)) := cell_on hb3 a1_2
  have a2_3 : w3.cell? ⟨w.heap.size, 2, none⟩ = some (.int .u16 (a.p : Int)) := cell_on hb3 a2_2
  have a3_3 : w3.cell? ⟨w.heap.size, 3, none⟩ = some (.int .u16 (a.q : Int)) := cell_on hb3 a3_2
  have a4_3 : w3.cell? ⟨w.heap.size, 4, none⟩ = some (.int .u8 (a.r : Int)) := cell_on hb3 a4_2
  have b0_3 : w3.cell? ⟨w.heap.size + 1, 0, none⟩ = some (.int .u32 (b.s : Int)) := cell_on hb3 b0_2
  have b1_3 : w3.cell? ⟨w.heap.size + 1, 1, none⟩ = some (.int .u32 (b.d : Int)) := cell_on hb3 b1_2
  have b2_3 : w3.cell? ⟨w.heap.size + 1, 2, none⟩ = some (.int .u16 (b.p : Int)) := cell_on hb3 b2_2
  have b3_3 : w3.cell? ⟨w.heap.size + 1, 3, none⟩ = some (.int .u16 (b.q : Int)) := cell_on hb3 b3_2
  have b4_3 : w3.cell? ⟨w.heap.size + 1, 4, none⟩ = some (.int .u8 (b.r : Int)) := cell_on hb3 b4_2
  have hg3_0 : w.heap.size < w3.heap.size := by omega
  have hg3_1 : w.heap.size + 1 < w3.heap.size := by omega
  have hl3 : w.heap.size ≤ w3.heap.size := by omega
  have hw3 : Hid (Below w.heap.size w w3) := hw2.out.trans (hb3.mono (by first | omega | (simp; done) | (simp; omega)))
  clear hb3 a0_2 a1_2 a2_2 a3_2 a4_2 b0_2 b1_2 b2_2 b3_2 b4_2 hg2_0 hg2_1 hw2
  go_wp2
  go_ret
  exact ⟨rfl, hw3.out⟩
end Go.Proofs.Ytpgadbiohmofeaa
