/-
  The law ExpandMeets, out of what the functions of expand and of span hand back.
-/
import Derived.Test.YtapaoemcjpfpoaaExAw
import Derived.Test.YtapaoemcjpfpoaaExPlM
import Derived.Test.YtapaoemcjpfpoaaSpB
namespace Go.Proofs.Ytapaoemcjpfpoaa
open Go.RowKit
set_option linter.unusedVariables false
set_option linter.unusedSimpArgs false

set_option maxHeartbeats 2000000 in
theorem expandMeets_bb (b : Nat) (n : Int) (c : Nat) (m : Int) (q x z x2 z2 : Nat)
    (c1 : ∀ W, Calls Try.prog 9 #[.agg #[.int .u16 b, .int .i64 n]] W fun e w' => e = .returned (.tuple #[.agg #[.int .u16 (x : Nat), .int .u16 (z : Nat)], .int .i64 50]) ∧ Below W.heap.size W w')
    (c2 : ∀ W, Calls Try.prog 9 #[.agg #[.int .u16 c, .int .i64 m]] W fun e w' => e = .returned (.tuple #[.agg #[.int .u16 (x2 : Nat), .int .u16 (z2 : Nat)], .int .i64 50]) ∧ Below W.heap.size W w')
    (ca : ∀ W, Calls Try.prog 11 #[] W fun e w' => e = .returned (.bool true) ∧ Below W.heap.size W w') (w : World) :
    Calls Try.prog 8 #[.agg #[.int .u16 b, .int .i64 n], .agg #[.int .u16 c, .int .i64 m], .int .u16 q] w fun e w' => e = .returned (.bool true) ∧ Below w.heap.size w w' := by
  go_enter Try.func8, Try.ntmps8
  go_wp2_with (fail)
  refine (c1 _).mono ?_
  rintro e w1 ⟨rfl, hb1⟩
  have hz1 := hb1.size
  (try simp at hz1)
  have a0_1 : w1.cell? ⟨w.heap.size, 0, none⟩ = some (.int .u16 b) := cell_on hb1 (show ((w.alloc (.cells #[.int .u16 b, .int .i64 n] 24)).alloc (.cells #[.int .u16 c, .int .i64 m] 24)).cell? ⟨w.heap.size, 0, none⟩ = some (.int .u16 b) from by simp [go_sem])
  have a1_1 : w1.cell? ⟨w.heap.size, 1, none⟩ = some (.int .i64 n) := cell_on hb1 (show ((w.alloc (.cells #[.int .u16 b, .int .i64 n] 24)).alloc (.cells #[.int .u16 c, .int .i64 m] 24)).cell? ⟨w.heap.size, 1, none⟩ = some (.int .i64 n) from by simp [go_sem])
  have d0_1 : w1.cell? ⟨w.heap.size + 1, 0, none⟩ = some (.int .u16 c) := cell_on hb1 (show ((w.alloc (.cells #[.int .u16 b, .int .i64 n] 24)).alloc (.cells #[.int .u16 c, .int .i64 m] 24)).cell? ⟨w.heap.size + 1, 0, none⟩ = some (.int .u16 c) from by simp [go_sem])
  have d1_1 : w1.cell? ⟨w.heap.size + 1, 1, none⟩ = some (.int .i64 m) := cell_on hb1 (show ((w.alloc (.cells #[.int .u16 b, .int .i64 n] 24)).alloc (.cells #[.int .u16 c, .int .i64 m] 24)).cell? ⟨w.heap.size + 1, 1, none⟩ = some (.int .i64 m) from by simp [go_sem])
  have hg1_0 : w.heap.size < w1.heap.size := by omega
  have hg1_1 : w.heap.size + 1 < w1.heap.size := by omega
  have hl1 : w.heap.size ≤ w1.heap.size := by omega
  have hw1 : Hid (Below w.heap.size w w1) := (((Below.refl _ _).alloc (by first | omega | (simp; done) | (simp; omega)) _).alloc (by first | omega | (simp; done) | (simp; omega)) _).trans (hb1.mono (by first | omega | (simp; done) | (simp; omega)))
  clear hb1
  go_wp2_with (fail)
  refine (c2 _).mono ?_
  rintro e w2 ⟨rfl, hb2⟩
  have hz2 := hb2.size
  (try simp at hz2)
  have a0_2 : w2.cell? ⟨w.heap.size, 0, none⟩ = some (.int .u16 b) := cell_on hb2 (cell_alloc a0_1)
  have a1_2 : w2.cell? ⟨w.heap.size, 1, none⟩ = some (.int .i64 n) := cell_on hb2 (cell_alloc a1_1)
  have d0_2 : w2.cell? ⟨w.heap.size + 1, 0, none⟩ = some (.int .u16 c) := cell_on hb2 (cell_alloc d0_1)
  have d1_2 : w2.cell? ⟨w.heap.size + 1, 1, none⟩ = some (.int .i64 m) := cell_on hb2 (cell_alloc d1_1)
  have k0_2 : w2.cell? ⟨w1.heap.size, 0, none⟩ = some (.int .u16 x) := cell_on hb2 (show (w1.alloc (.cells #[.int .u16 x, .int .u16 z] 26)).cell? ⟨w1.heap.size, 0, none⟩ = some (.int .u16 x) from by simp [go_sem])
  have k1_2 : w2.cell? ⟨w1.heap.size, 1, none⟩ = some (.int .u16 z) := cell_on hb2 (show (w1.alloc (.cells #[.int .u16 x, .int .u16 z] 26)).cell? ⟨w1.heap.size, 1, none⟩ = some (.int .u16 z) from by simp [go_sem])
  have hg2_0 : w.heap.size < w2.heap.size := by omega
  have hg2_1 : w.heap.size + 1 < w2.heap.size := by omega
  have hg2_2 : w1.heap.size < w2.heap.size := by omega
  have hl2 : w.heap.size ≤ w2.heap.size := by omega
  have hw2 : Hid (Below w.heap.size w w2) := (hw1.out.alloc (by first | omega | (simp; done) | (simp; omega)) _).trans (hb2.mono (by first | omega | (simp; done) | (simp; omega)))
  clear hb2 a0_1 a1_1 d0_1 d1_1 hg1_0 hg1_1 hw1
  go_wp2_with (fail)
  refine (ca _).mono ?_
  rintro e w3 ⟨rfl, hb3⟩
  have hz3 := hb3.size
  (try simp at hz3)
  have a0_3 : w3.cell? ⟨w.heap.size, 0, none⟩ = some (.int .u16 b) := cell_on hb3 (cell_alloc a0_2)
  have a1_3 : w3.cell? ⟨w.heap.size, 1, none⟩ = some (.int .i64 n) := cell_on hb3 (cell_alloc a1_2)
  have d0_3 : w3.cell? ⟨w.heap.size + 1, 0, none⟩ = some (.int .u16 c) := cell_on hb3 (cell_alloc d0_2)
  have d1_3 : w3.cell? ⟨w.heap.size + 1, 1, none⟩ = some (.int .i64 m) := cell_on hb3 (cell_alloc d1_2)
  have k0_3 : w3.cell? ⟨w1.heap.size, 0, none⟩ = some (.int .u16 x) := cell_on hb3 (cell_alloc k0_2)
  have k1_3 : w3.cell? ⟨w1.heap.size, 1, none⟩ = some (.int .u16 z) := cell_on hb3 (cell_alloc k1_2)
  have l0_3 : w3.cell? ⟨w2.heap.size, 0, none⟩ = some (.int .u16 x2) := cell_on hb3 (show (w2.alloc (.cells #[.int .u16 x2, .int .u16 z2] 26)).cell? ⟨w2.heap.size, 0, none⟩ = some (.int .u16 x2) from by simp [go_sem])
  have l1_3 : w3.cell? ⟨w2.heap.size, 1, none⟩ = some (.int .u16 z2) := cell_on hb3 (show (w2.alloc (.cells #[.int .u16 x2, .int .u16 z2] 26)).cell? ⟨w2.heap.size, 1, none⟩ = some (.int .u16 z2) from by simp [go_sem])
  have hg3_0 : w.heap.size < w3.heap.size := by omega
  have hg3_1 : w.heap.size + 1 < w3.heap.size := by omega
  have hg3_2 : w1.heap.size < w3.heap.size := by omega
  have hg3_3 : w2.heap.size < w3.heap.size := by omega
  have hl3 : w.heap.size ≤ w3.heap.size := by omega
  have hw3 : Hid (Below w.heap.size w w3) := (hw2.out.alloc (by first | omega | (simp; done) | (simp; omega)) _).trans (hb3.mono (by first | omega | (simp; done) | (simp; omega)))
  clear hb3 a0_2 a1_2 d0_2 d1_2 k0_2 k1_2 hg2_0 hg2_1 hg2_2 hw2
  go_wp2
  go_ret
  exact ⟨rfl, hw3.out⟩
set_option maxHeartbeats 2000000 in
theorem expandMeets_bg (b : Nat) (n : Int) (c : Nat) (m : Int) (q x z x2 z2 : Nat)
    (c1 : ∀ W, Calls Try.prog 9 #[.agg #[.int .u16 b, .int .i64 n]] W fun e w' => e = .returned (.tuple #[.agg #[.int .u16 (x : Nat), .int .u16 (z : Nat)], .int .i64 50]) ∧ Below W.heap.size W w')
    (c2 : ∀ W, Calls Try.prog 9 #[.agg #[.int .u16 c, .int .i64 m]] W fun e w' => e = .returned (.tuple #[.agg #[.int .u16 (x2 : Nat), .int .u16 (z2 : Nat)], .int .i64 0]) ∧ Below W.heap.size W w')
    (ca : ∀ W, Calls Try.prog 11 #[] W fun e w' => e = .returned (.bool true) ∧ Below W.heap.size W w') (w : World) :
    Calls Try.prog 8 #[.agg #[.int .u16 b, .int .i64 n], .agg #[.int .u16 c, .int .i64 m], .int .u16 q] w fun e w' => e = .returned (.bool true) ∧ Below w.heap.size w w' := by
  go_enter Try.func8, Try.ntmps8
  go_wp2_with (fail)
  refine (c1 _).mono ?_
  rintro e w1 ⟨rfl, hb1⟩
  have hz1 := hb1.size
  (try simp at hz1)
  have a0_1 : w1.cell? ⟨w.heap.size, 0, none⟩ = some (.int .u16 b) := cell_on hb1 (show ((w.alloc (.cells #[.int .u16 b, .int .i64 n] 24)).alloc (.cells #[.int .u16 c, .int .i64 m] 24)).cell? ⟨w.heap.size, 0, none⟩ = some (.int .u16 b) from by simp [go_sem])
  have a1_1 : w1.cell? ⟨w.heap.size, 1, none⟩ = some (.int .i64 n) := cell_on hb1 (show ((w.alloc (.cells #[.int .u16 b, .int .i64 n] 24)).alloc (.cells #[.int .u16 c, .int .i64 m] 24)).cell? ⟨w.heap.size, 1, none⟩ = some (.int .i64 n) from by simp [go_sem])
  have d0_1 : w1.cell? ⟨w.heap.size + 1, 0, none⟩ = some (.int .u16 c) := cell_on hb1 (show ((w.alloc (.cells #[.int .u16 b, .int .i64 n] 24)).alloc (.cells #[.int .u16 c, .int .i64 m] 24)).cell? ⟨w.heap.size + 1, 0, none⟩ = some (.int .u16 c) from by simp [go_sem])
  have d1_1 : w1.cell? ⟨w.heap.size + 1, 1, none⟩ = some (.int .i64 m) := cell_on hb1 (show ((w.alloc (.cells #[.int .u16 b, .int .i64 n] 24)).alloc (.cells #[.int .u16 c, .int .i64 m] 24)).cell? ⟨w.heap.size + 1, 1, none⟩ = some (.int .i64 m) from by simp [go_sem])
  have hg1_0 : w.heap.size < w1.heap.size := by omega
  have hg1_1 : w.heap.size + 1 < w1.heap.size := by omega
  have hl1 : w.heap.size ≤ w1.heap.size := by omega
  have hw1 : Hid (Below w.heap.size w w1) := (((Below.refl _ _).alloc (by first | omega | (simp; done) | (simp; omega)) _).alloc (by first | omega | (simp; done) | (simp; omega)) _).trans (hb1.mono (by first | omega | (simp; done) | (simp; omega)))
  clear hb1
  go_wp2_with (fail)
  refine (c2 _).mono ?_
  rintro e w2 ⟨rfl, hb2⟩
  have hz2 := hb2.size
  (try simp at hz2)
  have a0_2 : w2.cell? ⟨w.heap.size, 0, none⟩ = some (.int .u16 b) := cell_on hb2 (cell_alloc a0_1)
  have a1_2 : w2.cell? ⟨w.heap.size, 1, none⟩ = some (.int .i64 n) := cell_on hb2 (cell_alloc a1_1)
  have d0_2 : w2.cell? ⟨w.heap.size + 1, 0, none⟩ = some (.int .u16 c) := cell_on hb2 (cell_alloc d0_1)
  have d1_2 : w2.cell? ⟨w.heap.size + 1, 1, none⟩ = some (.int .i64 m) := cell_on hb2 (cell_alloc d1_1)
  have k0_2 : w2.cell? ⟨w1.heap.size, 0, none⟩ = some (.int .u16 x) := cell_on hb2 (show (w1.alloc (.cells #[.int .u16 x, .int .u16 z] 26)).cell? ⟨w1.heap.size, 0, none⟩ = some (.int .u16 x) from by simp [go_sem])
  have k1_2 : w2.cell? ⟨w1.heap.size, 1, none⟩ = some (.int .u16 z) := cell_on hb2 (show (w1.alloc (.cells #[.int .u16 x, .int .u16 z] 26)).cell? ⟨w1.heap.size, 1, none⟩ = some (.int .u16 z) from by simp [go_sem])
  have hg2_0 : w.heap.size < w2.heap.size := by omega
  have hg2_1 : w.heap.size + 1 < w2.heap.size := by omega
  have hg2_2 : w1.heap.size < w2.heap.size := by omega
  have hl2 : w.heap.size ≤ w2.heap.size := by omega
  have hw2 : Hid (Below w.heap.size w w2) := (hw1.out.alloc (by first | omega | (simp; done) | (simp; omega)) _).trans (hb2.mono (by first | omega | (simp; done) | (simp; omega)))
  clear hb2 a0_1 a1_1 d0_1 d1_1 hg1_0 hg1_1 hw1
  go_wp2_with (fail)
  refine (ca _).mono ?_
  rintro e w3 ⟨rfl, hb3⟩
  have hz3 := hb3.size
  (try simp at hz3)
  have a0_3 : w3.cell? ⟨w.heap.size, 0, none⟩ = some (.int .u16 b) := cell_on hb3 (cell_alloc a0_2)
  have a1_3 : w3.cell? ⟨w.heap.size, 1, none⟩ = some (.int .i64 n) := cell_on hb3 (cell_alloc a1_2)
  have d0_3 : w3.cell? ⟨w.heap.size + 1, 0, none⟩ = some (.int .u16 c) := cell_on hb3 (cell_alloc d0_2)
  have d1_3 : w3.cell? ⟨w.heap.size + 1, 1, none⟩ = some (.int .i64 m) := cell_on hb3 (cell_alloc d1_2)
  have k0_3 : w3.cell? ⟨w1.heap.size, 0, none⟩ = some (.int .u16 x) := cell_on hb3 (cell_alloc k0_2)
  have k1_3 : w3.cell? ⟨w1.heap.size, 1, none⟩ = some (.int .u16 z) := cell_on hb3 (cell_alloc k1_2)
  have l0_3 : w3.cell? ⟨w2.heap.size, 0, none⟩ = some (.int .u16 x2) := cell_on hb3 (show (w2.alloc (.cells #[.int .u16 x2, .int .u16 z2] 26)).cell? ⟨w2.heap.size, 0, none⟩ = some (.int .u16 x2) from by simp [go_sem])
  have l1_3 : w3.cell? ⟨w2.heap.size, 1, none⟩ = some (.int .u16 z2) := cell_on hb3 (show (w2.alloc (.cells #[.int .u16 x2, .int .u16 z2] 26)).cell? ⟨w2.heap.size, 1, none⟩ = some (.int .u16 z2) from by simp [go_sem])
  have hg3_0 : w.heap.size < w3.heap.size := by omega
  have hg3_1 : w.heap.size + 1 < w3.heap.size := by omega
  have hg3_2 : w1.heap.size < w3.heap.size := by omega
  have hg3_3 : w2.heap.size < w3.heap.size := by omega
  have hl3 : w.heap.size ≤ w3.heap.size := by omega
  have hw3 : Hid (Below w.heap.size w w3) := (hw2.out.alloc (by first | omega | (simp; done) | (simp; omega)) _).trans (hb3.mono (by first | omega | (simp; done) | (simp; omega)))
  clear hb3 a0_2 a1_2 d0_2 d1_2 k0_2 k1_2 hg2_0 hg2_1 hg2_2 hw2
  go_wp2
  go_ret
  exact ⟨rfl, hw3.out⟩
set_option maxHeartbeats 2000000 in
theorem expandMeets_gb (b : Nat) (n : Int) (c : Nat) (m : Int) (q x z x2 z2 : Nat)
    (c1 : ∀ W, Calls Try.prog 9 #[.agg #[.int .u16 b, .int .i64 n]] W fun e w' => e = .returned (.tuple #[.agg #[.int .u16 (x : Nat), .int .u16 (z : Nat)], .int .i64 0]) ∧ Below W.heap.size W w')
    (c2 : ∀ W, Calls Try.prog 9 #[.agg #[.int .u16 c, .int .i64 m]] W fun e w' => e = .returned (.tuple #[.agg #[.int .u16 (x2 : Nat), .int .u16 (z2 : Nat)], .int .i64 50]) ∧ Below W.heap.size W w')
    (ca : ∀ W, Calls Try.prog 11 #[] W fun e w' => e = .returned (.bool true) ∧ Below W.heap.size W w') (w : World) :
    Calls Try.prog 8 #[.agg #[.int .u16 b, .int .i64 n], .agg #[.int .u16 c, .int .i64 m], .int .u16 q] w fun e w' => e = .returned (.bool true) ∧ Below w.heap.size w w' := by
  go_enter Try.func8, Try.ntmps8
  go_wp2_with (fail)
  refine (c1 _).mono ?_
  rintro e w1 ⟨rfl, hb1⟩
  have hz1 := hb1.size
  (try simp at hz1)
  have a0_1 : w1.cell? ⟨w.heap.size, 0, none⟩ = some (.int .u16 b) := cell_on hb1 (show ((w.alloc (.cells #[.int .u16 b, .int .i64 n] 24)).alloc (.cells #[.int .u16 c, .int .i64 m] 24)).cell? ⟨w.heap.size, 0, none⟩ = some (.int .u16 b) from by simp [go_sem])
  have a1_1 : w1.cell? ⟨w.heap.size, 1, none⟩ = some (.int .i64 n) := cell_on hb1 (show ((w.alloc (.cells #[.int .u16 b, .int .i64 n] 24)).alloc (.cells #[.int .u16 c, .int .i64 m] 24)).cell? ⟨w.heap.size, 1, none⟩ = some (.int .i64 n) from by simp [go_sem])
  have d0_1 : w1.cell? ⟨w.heap.size + 1, 0, none⟩ = some (.int .u16 c) := cell_on hb1 (show ((w.alloc (.cells #[.int .u16 b, .int .i64 n] 24)).alloc (.cells #[.int .u16 c, .int .i64 m] 24)).cell? ⟨w.heap.size + 1, 0, none⟩ = some (.int .u16 c) from by simp [go_sem])
  have d1_1 : w1.cell? ⟨w.heap.size + 1, 1, none⟩ = some (.int .i64 m) := cell_on hb1 (show ((w.alloc (.cells #[.int .u16 b, .int .i64 n] 24)).alloc (.cells #[.int .u16 c, .int .i64 m] 24)).cell? ⟨w.heap.size + 1, 1, none⟩ = some (.int .i64 m) from by simp [go_sem])
  have hg1_0 : w.heap.size < w1.heap.size := by omega
  have hg1_1 : w.heap.size + 1 < w1.heap.size := by omega
  have hl1 : w.heap.size ≤ w1.heap.size := by omega
  have hw1 : Hid (Below w.heap.size w w1) := (((Below.refl _ _).alloc (by first | omega | (simp; done) | (simp; omega)) _).alloc (by first | omega | (simp; done) | (simp; omega)) _).trans (hb1.mono (by first | omega | (simp; done) | (simp; omega)))
  clear hb1
  go_wp2_with (fail)
  refine (c2 _).mono ?_
  rintro e w2 ⟨rfl, hb2⟩
  have hz2 := hb2.size
  (try simp at hz2)
  have a0_2 : w2.cell? ⟨w.heap.size, 0, none⟩ = some (.int .u16 b) := cell_on hb2 (cell_alloc a0_1)
  have a1_2 : w2.cell? ⟨w.heap.size, 1, none⟩ = some (.int .i64 n) := cell_on hb2 (cell_alloc a1_1)
  have d0_2 : w2.cell? ⟨w.heap.size + 1, 0, none⟩ = some (.int .u16 c) := cell_on hb2 (cell_alloc d0_1)
  have d1_2 : w2.cell? ⟨w.heap.size + 1, 1, none⟩ = some (.int .i64 m) := cell_on hb2 (cell_alloc d1_1)
  have k0_2 : w2.cell? ⟨w1.heap.size, 0, none⟩ = some (.int .u16 x) := cell_on hb2 (show (w1.alloc (.cells #[.int .u16 x, .int .u16 z] 26)).cell? ⟨w1.heap.size, 0, none⟩ = some (.int .u16 x) from by simp [go_sem])
  have k1_2 : w2.cell? ⟨w1.heap.size, 1, none⟩ = some (.int .u16 z) := cell_on hb2 (show (w1.alloc (.cells #[.int .u16 x, .int .u16 z] 26)).cell? ⟨w1.heap.size, 1, none⟩ = some (.int .u16 z) from by simp [go_sem])
  have hg2_0 : w.heap.size < w2.heap.size := by omega
  have hg2_1 : w.heap.size + 1 < w2.heap.size := by omega
  have hg2_2 : w1.heap.size < w2.heap.size := by omega
  have hl2 : w.heap.size ≤ w2.heap.size := by omega
  have hw2 : Hid (Below w.heap.size w w2) := (hw1.out.alloc (by first | omega | (simp; done) | (simp; omega)) _).trans (hb2.mono (by first | omega | (simp; done) | (simp; omega)))
  clear hb2 a0_1 a1_1 d0_1 d1_1 hg1_0 hg1_1 hw1
  go_wp2_with (fail)
  refine (ca _).mono ?_
  rintro e w3 ⟨rfl, hb3⟩
  have hz3 := hb3.size
  (try simp at hz3)
  have a0_3 : w3.cell? ⟨w.heap.size, 0, none⟩ = some (.int .u16 b) := cell_on hb3 (cell_alloc a0_2)
  have a1_3 : w3.cell? ⟨w.heap.size, 1, none⟩ = some (.int .i64 n) := cell_on hb3 (cell_alloc a1_2)
  have d0_3 : w3.cell? ⟨w.heap.size + 1, 0, none⟩ = some (.int .u16 c) := cell_on hb3 (cell_alloc d0_2)
  have d1_3 : w3.cell? ⟨w.heap.size + 1, 1, none⟩ = some (.int .i64 m) := cell_on hb3 (cell_alloc d1_2)
  have k0_3 : w3.cell? ⟨w1.heap.size, 0, none⟩ = some (.int .u16 x) := cell_on hb3 (cell_alloc k0_2)
  have k1_3 : w3.cell? ⟨w1.heap.size, 1, none⟩ = some (.int .u16 z) := cell_on hb3 (cell_alloc k1_2)
  have l0_3 : w3.cell? ⟨w2.heap.size, 0, none⟩ = some (.int .u16 x2) := cell_on hb3 (show (w2.alloc (.cells #[.int .u16 x2, .int .u16 z2] 26)).cell? ⟨w2.heap.size, 0, none⟩ = some (.int .u16 x2) from by simp [go_sem])
  have l1_3 : w3.cell? ⟨w2.heap.size, 1, none⟩ = some (.int .u16 z2) := cell_on hb3 (show (w2.alloc (.cells #[.int .u16 x2, .int .u16 z2] 26)).cell? ⟨w2.heap.size, 1, none⟩ = some (.int .u16 z2) from by simp [go_sem])
  have hg3_0 : w.heap.size < w3.heap.size := by omega
  have hg3_1 : w.heap.size + 1 < w3.heap.size := by omega
  have hg3_2 : w1.heap.size < w3.heap.size := by omega
  have hg3_3 : w2.heap.size < w3.heap.size := by omega
  have hl3 : w.heap.size ≤ w3.heap.size := by omega
  have hw3 : Hid (Below w.heap.size w w3) := (hw2.out.alloc (by first | omega | (simp; done) | (simp; omega)) _).trans (hb3.mono (by first | omega | (simp; done) | (simp; omega)))
  clear hb3 a0_2 a1_2 d0_2 d1_2 k0_2 k1_2 hg2_0 hg2_1 hg2_2 hw2
  go_wp2
  go_ret
  exact ⟨rfl, hw3.out⟩
set_option maxHeartbeats 4000000 in
theorem expandMeets_n0 (b : Nat) (n : Int) (c : Nat) (m : Int) (q x z x2 z2 : Nat) 
    (c1 : ∀ W, Calls Try.prog 9 #[.agg #[.int .u16 b, .int .i64 n]] W fun e w' => e = .returned (.tuple #[.agg #[.int .u16 (x : Nat), .int .u16 (z : Nat)], .int .i64 0]) ∧ Below W.heap.size W w')
    (c2 : ∀ W, Calls Try.prog 9 #[.agg #[.int .u16 c, .int .i64 m]] W fun e w' => e = .returned (.tuple #[.agg #[.int .u16 (x2 : Nat), .int .u16 (z2 : Nat)], .int .i64 0]) ∧ Below W.heap.size W w')
    (c3 : ∀ W, Calls Try.prog 31 #[.agg #[.int .u16 (x : Nat), .int .u16 (z : Nat)], .agg #[.int .u16 (x2 : Nat), .int .u16 (z2 : Nat)]] W fun e w' => e = .returned (.tuple #[.agg #[.int .u16 0, .int .u16 0], .bool false]) ∧ Below W.heap.size W w')
    (c4 : ∀ W, Calls Try.prog 14 #[.agg #[.int .u16 b, .int .i64 n], .int .u16 q] W fun e w' => e = .returned (.bool false) ∧ Below W.heap.size W w')
    (ca : ∀ W, Calls Try.prog 11 #[] W fun e w' => e = .returned (.bool true) ∧ Below W.heap.size W w') (w : World) :
    Calls Try.prog 8 #[.agg #[.int .u16 b, .int .i64 n], .agg #[.int .u16 c, .int .i64 m], .int .u16 q] w fun e w' => e = .returned (.bool true) ∧ Below w.heap.size w w' := by
  go_enter Try.func8, Try.ntmps8
  go_wp2_with (fail)
  refine (c1 _).mono ?_
  rintro e w1 ⟨rfl, hb1⟩
  have hz1 := hb1.size
  (try simp at hz1)
  have a0_1 : w1.cell? ⟨w.heap.size, 0, none⟩ = some (.int .u16 b) := cell_on hb1 (show ((w.alloc (.cells #[.int .u16 b, .int .i64 n] 24)).alloc (.cells #[.int .u16 c, .int .i64 m] 24)).cell? ⟨w.heap.size, 0, none⟩ = some (.int .u16 b) from by simp [go_sem])
  have a1_1 : w1.cell? ⟨w.heap.size, 1, none⟩ = some (.int .i64 n) := cell_on hb1 (show ((w.alloc (.cells #[.int .u16 b, .int .i64 n] 24)).alloc (.cells #[.int .u16 c, .int .i64 m] 24)).cell? ⟨w.heap.size, 1, none⟩ = some (.int .i64 n) from by simp [go_sem])
  have d0_1 : w1.cell? ⟨w.heap.size + 1, 0, none⟩ = some (.int .u16 c) := cell_on hb1 (show ((w.alloc (.cells #[.int .u16 b, .int .i64 n] 24)).alloc (.cells #[.int .u16 c, .int .i64 m] 24)).cell? ⟨w.heap.size + 1, 0, none⟩ = some (.int .u16 c) from by simp [go_sem])
  have d1_1 : w1.cell? ⟨w.heap.size + 1, 1, none⟩ = some (.int .i64 m) := cell_on hb1 (show ((w.alloc (.cells #[.int .u16 b, .int .i64 n] 24)).alloc (.cells #[.int .u16 c, .int .i64 m] 24)).cell? ⟨w.heap.size + 1, 1, none⟩ = some (.int .i64 m) from by simp [go_sem])
  have hg1_0 : w.heap.size < w1.heap.size := by omega
  have hg1_1 : w.heap.size + 1 < w1.heap.size := by omega
  have hl1 : w.heap.size ≤ w1.heap.size := by omega
  have hw1 : Hid (Below w.heap.size w w1) := (((Below.refl _ _).alloc (by first | omega | (simp; done) | (simp; omega)) _).alloc (by first | omega | (simp; done) | (simp; omega)) _).trans (hb1.mono (by first | omega | (simp; done) | (simp; omega)))
  clear hb1
  go_wp2_with (fail)
  refine (c2 _).mono ?_
  rintro e w2 ⟨rfl, hb2⟩
  have hz2 := hb2.size
  (try simp at hz2)
  have a0_2 : w2.cell? ⟨w.heap.size, 0, none⟩ = some (.int .u16 b) := cell_on hb2 (cell_alloc a0_1)
  have a1_2 : w2.cell? ⟨w.heap.size, 1, none⟩ = some (.int .i64 n) := cell_on hb2 (cell_alloc a1_1)
  have d0_2 : w2.cell? ⟨w.heap.size + 1, 0, none⟩ = some (.int .u16 c) := cell_on hb2 (cell_alloc d0_1)
  have d1_2 : w2.cell? ⟨w.heap.size + 1, 1, none⟩ = some (.int .i64 m) := cell_on hb2 (cell_alloc d1_1)
  have k0_2 : w2.cell? ⟨w1.heap.size, 0, none⟩ = some (.int .u16 x) := cell_on hb2 (show (w1.alloc (.cells #[.int .u16 x, .int .u16 z] 26)).cell? ⟨w1.heap.size, 0, none⟩ = some (.int .u16 x) from by simp [go_sem])
  have k1_2 : w2.cell? ⟨w1.heap.size, 1, none⟩ = some (.int .u16 z) := cell_on hb2 (show (w1.alloc (.cells #[.int .u16 x, .int .u16 z] 26)).cell? ⟨w1.heap.size, 1, none⟩ = some (.int .u16 z) from by simp [go_sem])
  have hg2_0 : w.heap.size < w2.heap.size := by omega
  have hg2_1 : w.heap.size + 1 < w2.heap.size := by omega
  have hg2_2 : w1.heap.size < w2.heap.size := by omega
  have hl2 : w.heap.size ≤ w2.heap.size := by omega
  have hw2 : Hid (Below w.heap.size w w2) := (hw1.out.alloc (by first | omega | (simp; done) | (simp; omega)) _).trans (hb2.mono (by first | omega | (simp; done) | (simp; omega)))
  clear hb2 a0_1 a1_1 d0_1 d1_1 hg1_0 hg1_1 hw1
  go_wp2_with (fail)
  refine (c3 _).mono ?_
  rintro e w3 ⟨rfl, hb3⟩
  have hz3 := hb3.size
  (try simp at hz3)
  have a0_3 : w3.cell? ⟨w.heap.size, 0, none⟩ = some (.int .u16 b) := cell_on hb3 (cell_alloc a0_2)
  have a1_3 : w3.cell? ⟨w.heap.size, 1, none⟩ = some (.int .i64 n) := cell_on hb3 (cell_alloc a1_2)
  have d0_3 : w3.cell? ⟨w.heap.size + 1, 0, none⟩ = some (.int .u16 c) := cell_on hb3 (cell_alloc d0_2)
  have d1_3 : w3.cell? ⟨w.heap.size + 1, 1, none⟩ = some (.int .i64 m) := cell_on hb3 (cell_alloc d1_2)
  have k0_3 : w3.cell? ⟨w1.heap.size, 0, none⟩ = some (.int .u16 x) := cell_on hb3 (cell_alloc k0_2)
  have k1_3 : w3.cell? ⟨w1.heap.size, 1, none⟩ = some (.int .u16 z) := cell_on hb3 (cell_alloc k1_2)
  have l0_3 : w3.cell? ⟨w2.heap.size, 0, none⟩ = some (.int .u16 x2) := cell_on hb3 (show (w2.alloc (.cells #[.int .u16 x2, .int .u16 z2] 26)).cell? ⟨w2.heap.size, 0, none⟩ = some (.int .u16 x2) from by simp [go_sem])
  have l1_3 : w3.cell? ⟨w2.heap.size, 1, none⟩ = some (.int .u16 z2) := cell_on hb3 (show (w2.alloc (.cells #[.int .u16 x2, .int .u16 z2] 26)).cell? ⟨w2.heap.size, 1, none⟩ = some (.int .u16 z2) from by simp [go_sem])
  have hg3_0 : w.heap.size < w3.heap.size := by omega
  have hg3_1 : w.heap.size + 1 < w3.heap.size := by omega
  have hg3_2 : w1.heap.size < w3.heap.size := by omega
  have hg3_3 : w2.heap.size < w3.heap.size := by omega
  have hl3 : w.heap.size ≤ w3.heap.size := by omega
  have hw3 : Hid (Below w.heap.size w w3) := (hw2.out.alloc (by first | omega | (simp; done) | (simp; omega)) _).trans (hb3.mono (by first | omega | (simp; done) | (simp; omega)))
  clear hb3 a0_2 a1_2 d0_2 d1_2 k0_2 k1_2 hg2_0 hg2_1 hg2_2 hw2
  go_wp2_with (fail)
  refine (c4 _).mono ?_
  rintro e w4 ⟨rfl, hb4⟩
  have hz4 := hb4.size
  (try simp at hz4)
  have a0_4 : w4.cell? ⟨w.heap.size, 0, none⟩ = some (.int .u16 b) := cell_on hb4 (cell_alloc a0_3)
  have a1_4 : w4.cell? ⟨w.heap.size, 1, none⟩ = some (.int .i64 n) := cell_on hb4 (cell_alloc a1_3)
  have d0_4 : w4.cell? ⟨w.heap.size + 1, 0, none⟩ = some (.int .u16 c) := cell_on hb4 (cell_alloc d0_3)
  have d1_4 : w4.cell? ⟨w.heap.size + 1, 1, none⟩ = some (.int .i64 m) := cell_on hb4 (cell_alloc d1_3)
  have k0_4 : w4.cell? ⟨w1.heap.size, 0, none⟩ = some (.int .u16 x) := cell_on hb4 (cell_alloc k0_3)
  have k1_4 : w4.cell? ⟨w1.heap.size, 1, none⟩ = some (.int .u16 z) := cell_on hb4 (cell_alloc k1_3)
  have l0_4 : w4.cell? ⟨w2.heap.size, 0, none⟩ = some (.int .u16 x2) := cell_on hb4 (cell_alloc l0_3)
  have l1_4 : w4.cell? ⟨w2.heap.size, 1, none⟩ = some (.int .u16 z2) := cell_on hb4 (cell_alloc l1_3)
  have j0_4 : w4.cell? ⟨w3.heap.size, 0, none⟩ = some (.int .u16 0) := cell_on hb4 (show (w3.alloc (.cells #[.int .u16 0, .int .u16 0] 26)).cell? ⟨w3.heap.size, 0, none⟩ = some (.int .u16 0) from by simp [go_sem])
  have j1_4 : w4.cell? ⟨w3.heap.size, 1, none⟩ = some (.int .u16 0) := cell_on hb4 (show (w3.alloc (.cells #[.int .u16 0, .int .u16 0] 26)).cell? ⟨w3.heap.size, 1, none⟩ = some (.int .u16 0) from by simp [go_sem])
  have hg4_0 : w.heap.size < w4.heap.size := by omega
  have hg4_1 : w.heap.size + 1 < w4.heap.size := by omega
  have hg4_2 : w1.heap.size < w4.heap.size := by omega
  have hg4_3 : w2.heap.size < w4.heap.size := by omega
  have hg4_4 : w3.heap.size < w4.heap.size := by omega
  have hl4 : w.heap.size ≤ w4.heap.size := by omega
  have hw4 : Hid (Below w.heap.size w w4) := (hw3.out.alloc (by first | omega | (simp; done) | (simp; omega)) _).trans (hb4.mono (by first | omega | (simp; done) | (simp; omega)))
  clear hb4 a0_3 a1_3 d0_3 d1_3 k0_3 k1_3 l0_3 l1_3 hg3_0 hg3_1 hg3_2 hg3_3 hw3
  go_wp2_with (fail)
  refine (ca _).mono ?_
  rintro e w5 ⟨rfl, hb5⟩
  have hz5 := hb5.size
  (try simp at hz5)
  have a0_5 : w5.cell? ⟨w.heap.size, 0, none⟩ = some (.int .u16 b) := cell_on hb5 a0_4
  have a1_5 : w5.cell? ⟨w.heap.size, 1, none⟩ = some (.int .i64 n) := cell_on hb5 a1_4
  have d0_5 : w5.cell? ⟨w.heap.size + 1, 0, none⟩ = some (.int .u16 c) := cell_on hb5 d0_4
  have d1_5 : w5.cell? ⟨w.heap.size + 1, 1, none⟩ = some (.int .i64 m) := cell_on hb5 d1_4
  have k0_5 : w5.cell? ⟨w1.heap.size, 0, none⟩ = some (.int .u16 x) := cell_on hb5 k0_4
  have k1_5 : w5.cell? ⟨w1.heap.size, 1, none⟩ = some (.int .u16 z) := cell_on hb5 k1_4
  have l0_5 : w5.cell? ⟨w2.heap.size, 0, none⟩ = some (.int .u16 x2) := cell_on hb5 l0_4
  have l1_5 : w5.cell? ⟨w2.heap.size, 1, none⟩ = some (.int .u16 z2) := cell_on hb5 l1_4
  have j0_5 : w5.cell? ⟨w3.heap.size, 0, none⟩ = some (.int .u16 0) := cell_on hb5 j0_4
  have j1_5 : w5.cell? ⟨w3.heap.size, 1, none⟩ = some (.int .u16 0) := cell_on hb5 j1_4
  have hg5_0 : w.heap.size < w5.heap.size := by omega
  have hg5_1 : w.heap.size + 1 < w5.heap.size := by omega
  have hg5_2 : w1.heap.size < w5.heap.size := by omega
  have hg5_3 : w2.heap.size < w5.heap.size := by omega
  have hg5_4 : w3.heap.size < w5.heap.size := by omega
  have hl5 : w.heap.size ≤ w5.heap.size := by omega
  have hw5 : Hid (Below w.heap.size w w5) := hw4.out.trans (hb5.mono (by first | omega | (simp; done) | (simp; omega)))
  clear hb5 a0_4 a1_4 d0_4 d1_4 k0_4 k1_4 l0_4 l1_4 j0_4 j1_4 hg4_0 hg4_1 hg4_2 hg4_3 hg4_4 hw4
  go_wp2
  go_ret
  exact ⟨rfl, hw5.out⟩
set_option maxHeartbeats 4000000 in
theorem expandMeets_n10 (b : Nat) (n : Int) (c : Nat) (m : Int) (q x z x2 z2 : Nat) 
    (c1 : ∀ W, Calls Try.prog 9 #[.agg #[.int .u16 b, .int .i64 n]] W fun e w' => e = .returned (.tuple #[.agg #[.int .u16 (x : Nat), .int .u16 (z : Nat)], .int .i64 0]) ∧ Below W.heap.size W w')
    (c2 : ∀ W, Calls Try.prog 9 #[.agg #[.int .u16 c, .int .i64 m]] W fun e w' => e = .returned (.tuple #[.agg #[.int .u16 (x2 : Nat), .int .u16 (z2 : Nat)], .int .i64 0]) ∧ Below W.heap.size W w')
    (c3 : ∀ W, Calls Try.prog 31 #[.agg #[.int .u16 (x : Nat), .int .u16 (z : Nat)], .agg #[.int .u16 (x2 : Nat), .int .u16 (z2 : Nat)]] W fun e w' => e = .returned (.tuple #[.agg #[.int .u16 0, .int .u16 0], .bool false]) ∧ Below W.heap.size W w')
    (c4 : ∀ W, Calls Try.prog 14 #[.agg #[.int .u16 b, .int .i64 n], .int .u16 q] W fun e w' => e = .returned (.bool true) ∧ Below W.heap.size W w')
    (c5 : ∀ W, Calls Try.prog 14 #[.agg #[.int .u16 c, .int .i64 m], .int .u16 q] W fun e w' => e = .returned (.bool false) ∧ Below W.heap.size W w')
    (ca : ∀ W, Calls Try.prog 11 #[] W fun e w' => e = .returned (.bool true) ∧ Below W.heap.size W w') (w : World) :
    Calls Try.prog 8 #[.agg #[.int .u16 b, .int .i64 n], .agg #[.int .u16 c, .int .i64 m], .int .u16 q] w fun e w' => e = .returned (.bool true) ∧ Below w.heap.size w w' := by
  go_enter Try.func8, Try.ntmps8
  go_wp2_with (fail)
  refine (c1 _).mono ?_
  rintro e w1 ⟨rfl, hb1⟩
  have hz1 := hb1.size
  (try simp at hz1)
  have a0_1 : w1.cell? ⟨w.heap.size, 0, none⟩ = some (.int .u16 b) := cell_on hb1 (show ((w.alloc (.cells #[.int .u16 b, .int .i64 n] 24)).alloc (.cells #[.int .u16 c, .int .i64 m] 24)).cell? ⟨w.heap.size, 0, none⟩ = some (.int .u16 b) from by simp [go_sem])
  have a1_1 : w1.cell? ⟨w.heap.size, 1, none⟩ = some (.int .i64 n) := cell_on hb1 (show ((w.alloc (.cells #[.int .u16 b, .int .i64 n] 24)).alloc (.cells #[.int .u16 c, .int .i64 m] 24)).cell? ⟨w.heap.size, 1, none⟩ = some (.int .i64 n) from by simp [go_sem])
  have d0_1 : w1.cell? ⟨w.heap.size + 1, 0, none⟩ = some (.int .u16 c) := cell_on hb1 (show ((w.alloc (.cells #[.int .u16 b, .int .i64 n] 24)).alloc (.cells #[.int .u16 c, .int .i64 m] 24)).cell? ⟨w.heap.size + 1, 0, none⟩ = some (.int .u16 c) from by simp [go_sem])
  have d1_1 : w1.cell? ⟨w.heap.size + 1, 1, none⟩ = some (.int .i64 m) := cell_on hb1 (show ((w.alloc (.cells #[.int .u16 b, .int .i64 n] 24)).alloc (.cells #[.int .u16 c, .int .i64 m] 24)).cell? ⟨w.heap.size + 1, 1, none⟩ = some (.int .i64 m) from by simp [go_sem])
  have hg1_0 : w.heap.size < w1.heap.size := by omega
  have hg1_1 : w.heap.size + 1 < w1.heap.size := by omega
  have hl1 : w.heap.size ≤ w1.heap.size := by omega
  have hw1 : Hid (Below w.heap.size w w1) := (((Below.refl _ _).alloc (by first | omega | (simp; done) | (simp; omega)) _).alloc (by first | omega | (simp; done) | (simp; omega)) _).trans (hb1.mono (by first | omega | (simp; done) | (simp; omega)))
  clear hb1
  go_wp2_with (fail)
  refine (c2 _).mono ?_
  rintro e w2 ⟨rfl, hb2⟩
  have hz2 := hb2.size
  (try simp at hz2)
  have a0_2 : w2.cell? ⟨w.heap.size, 0, none⟩ = some (.int .u16 b) := cell_on hb2 (cell_alloc a0_1)
  have a1_2 : w2.cell? ⟨w.heap.size, 1, none⟩ = some (.int .i64 n) := cell_on hb2 (cell_alloc a1_1)
  have d0_2 : w2.cell? ⟨w.heap.size + 1, 0, none⟩ = some (.int .u16 c) := cell_on hb2 (cell_alloc d0_1)
  have d1_2 : w2.cell? ⟨w.heap.size + 1, 1, none⟩ = some (.int .i64 m) := cell_on hb2 (cell_alloc d1_1)
  have k0_2 : w2.cell? ⟨w1.heap.size, 0, none⟩ = some (.int .u16 x) := cell_on hb2 (show (w1.alloc (.cells #[.int .u16 x, .int .u16 z] 26)).cell? ⟨w1.heap.size, 0, none⟩ = some (.int .u16 x) from by simp [go_sem])
  have k1_2 : w2.cell? ⟨w1.heap.size, 1, none⟩ = some (.int .u16 z) := cell_on hb2 (show (w1.alloc (.cells #[.int .u16 x, .int .u16 z] 26)).cell? ⟨w1.heap.size, 1, none⟩ = some (.int .u16 z) from by simp [go_sem])
  have hg2_0 : w.heap.size < w2.heap.size := by omega
  have hg2_1 : w.heap.size + 1 < w2.heap.size := by omega
  have hg2_2 : w1.heap.size < w2.heap.size := by omega
  have hl2 : w.heap.size ≤ w2.heap.size := by omega
  have hw2 : Hid (Below w.heap.size w w2) := (hw1.out.alloc (by first | omega | (simp; done) | (simp; omega)) _).trans (hb2.mono (by first | omega | (simp; done) | (simp; omega)))
  clear hb2 a0_1 a1_1 d0_1 d1_1 hg1_0 hg1_1 hw1
  go_wp2_with (fail)
  refine (c3 _).mono ?_
  rintro e w3 ⟨rfl, hb3⟩
  have hz3 := hb3.size
  (try simp at hz3)
  have a0_3 : w3.cell? ⟨w.heap.size, 0, none⟩ = some (.int .u16 b) := cell_on hb3 (cell_alloc a0_2)
  have a1_3 : w3.cell? ⟨w.heap.size, 1, none⟩ = some (.int .i64 n) := cell_on hb3 (cell_alloc a1_2)
  have d0_3 : w3.cell? ⟨w.heap.size + 1, 0, none⟩ = some (.int .u16 c) := cell_on hb3 (cell_alloc d0_2)
  have d1_3 : w3.cell? ⟨w.heap.size + 1, 1, none⟩ = some (.int .i64 m) := cell_on hb3 (cell_alloc d1_2)
  have k0_3 : w3.cell? ⟨w1.heap.size, 0, none⟩ = some (.int .u16 x) := cell_on hb3 (cell_alloc k0_2)
  have k1_3 : w3.cell? ⟨w1.heap.size, 1, none⟩ = some (.int .u16 z) := cell_on hb3 (cell_alloc k1_2)
  have l0_3 : w3.cell? ⟨w2.heap.size, 0, none⟩ = some (.int .u16 x2) := cell_on hb3 (show (w2.alloc (.cells #[.int .u16 x2, .int .u16 z2] 26)).cell? ⟨w2.heap.size, 0, none⟩ = some (.int .u16 x2) from by simp [go_sem])
  have l1_3 : w3.cell? ⟨w2.heap.size, 1, none⟩ = some (.int .u16 z2) := cell_on hb3 (show (w2.alloc (.cells #[.int .u16 x2, .int .u16 z2] 26)).cell? ⟨w2.heap.size, 1, none⟩ = some (.int .u16 z2) from by simp [go_sem])
  have hg3_0 : w.heap.size < w3.heap.size := by omega
  have hg3_1 : w.heap.size + 1 < w3.heap.size := by omega
  have hg3_2 : w1.heap.size < w3.heap.size := by omega
  have hg3_3 : w2.heap.size < w3.heap.size := by omega
  have hl3 : w.heap.size ≤ w3.heap.size := by omega
  have hw3 : Hid (Below w.heap.size w w3) := (hw2.out.alloc (by first | omega | (simp; done) | (simp; omega)) _).trans (hb3.mono (by first | omega | (simp; done) | (simp; omega)))
  clear hb3 a0_2 a1_2 d0_2 d1_2 k0_2 k1_2 hg2_0 hg2_1 hg2_2 hw2
  go_wp2_with (fail)
  refine (c4 _).mono ?_
  rintro e w4 ⟨rfl, hb4⟩
  have hz4 := hb4.size
  (try simp at hz4)
  have a0_4 : w4.cell? ⟨w.heap.size, 0, none⟩ = some (.int .u16 b) := cell_on hb4 (cell_alloc a0_3)
  have a1_4 : w4.cell? ⟨w.heap.size, 1, none⟩ = some (.int .i64 n) := cell_on hb4 (cell_alloc a1_3)
  have d0_4 : w4.cell? ⟨w.heap.size + 1, 0, none⟩ = some (.int .u16 c) := cell_on hb4 (cell_alloc d0_3)
  have d1_4 : w4.cell? ⟨w.heap.size + 1, 1, none⟩ = some (.int .i64 m) := cell_on hb4 (cell_alloc d1_3)
  have k0_4 : w4.cell? ⟨w1.heap.size, 0, none⟩ = some (.int .u16 x) := cell_on hb4 (cell_alloc k0_3)
  have k1_4 : w4.cell? ⟨w1.heap.size, 1, none⟩ = some (.int .u16 z) := cell_on hb4 (cell_alloc k1_3)
  have l0_4 : w4.cell? ⟨w2.heap.size, 0, none⟩ = some (.int .u16 x2) := cell_on hb4 (cell_alloc l0_3)
  have l1_4 : w4.cell? ⟨w2.heap.size, 1, none⟩ = some (.int .u16 z2) := cell_on hb4 (cell_alloc l1_3)
  have j0_4 : w4.cell? ⟨w3.heap.size, 0, none⟩ = some (.int .u16 0) := cell_on hb4 (show (w3.alloc (.cells #[.int .u16 0, .int .u16 0] 26)).cell? ⟨w3.heap.size, 0, none⟩ = some (.int .u16 0) from by simp [go_sem])
  have j1_4 : w4.cell? ⟨w3.heap.size, 1, none⟩ = some (.int .u16 0) := cell_on hb4 (show (w3.alloc (.cells #[.int .u16 0, .int .u16 0] 26)).cell? ⟨w3.heap.size, 1, none⟩ = some (.int .u16 0) from by simp [go_sem])
  have hg4_0 : w.heap.size < w4.heap.size := by omega
  have hg4_1 : w.heap.size + 1 < w4.heap.size := by omega
  have hg4_2 : w1.heap.size < w4.heap.size := by omega
  have hg4_3 : w2.heap.size < w4.heap.size := by omega
  have hg4_4 : w3.heap.size < w4.heap.size := by omega
  have hl4 : w.heap.size ≤ w4.heap.size := by omega
  have hw4 : Hid (Below w.heap.size w w4) := (hw3.out.alloc (by first | omega | (simp; done) | (simp; omega)) _).trans (hb4.mono (by first | omega | (simp; done) | (simp; omega)))
  clear hb4 a0_3 a1_3 d0_3 d1_3 k0_3 k1_3 l0_3 l1_3 hg3_0 hg3_1 hg3_2 hg3_3 hw3
  go_wp2_with (fail)
  refine (c5 _).mono ?_
  rintro e w5 ⟨rfl, hb5⟩
  have hz5 := hb5.size
  (try simp at hz5)
  have a0_5 : w5.cell? ⟨w.heap.size, 0, none⟩ = some (.int .u16 b) := cell_on hb5 a0_4
  have a1_5 : w5.cell? ⟨w.heap.size, 1, none⟩ = some (.int .i64 n) := cell_on hb5 a1_4
  have d0_5 : w5.cell? ⟨w.heap.size + 1, 0, none⟩ = some (.int .u16 c) := cell_on hb5 d0_4
  have d1_5 : w5.cell? ⟨w.heap.size + 1, 1, none⟩ = some (.int .i64 m) := cell_on hb5 d1_4
  have k0_5 : w5.cell? ⟨w1.heap.size, 0, none⟩ = some (.int .u16 x) := cell_on hb5 k0_4
  have k1_5 : w5.cell? ⟨w1.heap.size, 1, none⟩ = some (.int .u16 z) := cell_on hb5 k1_4
  have l0_5 : w5.cell? ⟨w2.heap.size, 0, none⟩ = some (.int .u16 x2) := cell_on hb5 l0_4
  have l1_5 : w5.cell? ⟨w2.heap.size, 1, none⟩ = some (.int .u16 z2) := cell_on hb5 l1_4
  have j0_5 : w5.cell? ⟨w3.heap.size, 0, none⟩ = some (.int .u16 0) := cell_on hb5 j0_4
  have j1_5 : w5.cell? ⟨w3.heap.size, 1, none⟩ = some (.int .u16 0) := cell_on hb5 j1_4
  have hg5_0 : w.heap.size < w5.heap.size := by omega
  have hg5_1 : w.heap.size + 1 < w5.heap.size := by omega
  have hg5_2 : w1.heap.size < w5.heap.size := by omega
  have hg5_3 : w2.heap.size < w5.heap.size := by omega
  have hg5_4 : w3.heap.size < w5.heap.size := by omega
  have hl5 : w.heap.size ≤ w5.heap.size := by omega
  have hw5 : Hid (Below w.heap.size w w5) := hw4.out.trans (hb5.mono (by first | omega | (simp; done) | (simp; omega)))
  clear hb5 a0_4 a1_4 d0_4 d1_4 k0_4 k1_4 l0_4 l1_4 j0_4 j1_4 hg4_0 hg4_1 hg4_2 hg4_3 hg4_4 hw4
  go_wp2_with (fail)
  refine (ca _).mono ?_
  rintro e w6 ⟨rfl, hb6⟩
  have hz6 := hb6.size
  (try simp at hz6)
  have a0_6 : w6.cell? ⟨w.heap.size, 0, none⟩ = some (.int .u16 b) := cell_on hb6 a0_5
  have a1_6 : w6.cell? ⟨w.heap.size, 1, none⟩ = some (.int .i64 n) := cell_on hb6 a1_5
  have d0_6 : w6.cell? ⟨w.heap.size + 1, 0, none⟩ = some (.int .u16 c) := cell_on hb6 d0_5
  have d1_6 : w6.cell? ⟨w.heap.size + 1, 1, none⟩ = some (.int .i64 m) := cell_on hb6 d1_5
  have k0_6 : w6.cell? ⟨w1.heap.size, 0, none⟩ = some (.int .u16 x) := cell_on hb6 k0_5
  have k1_6 : w6.cell? ⟨w1.heap.size, 1, none⟩ = some (.int .u16 z) := cell_on hb6 k1_5
  have l0_6 : w6.cell? ⟨w2.heap.size, 0, none⟩ = some (.int .u16 x2) := cell_on hb6 l0_5
  have l1_6 : w6.cell? ⟨w2.heap.size, 1, none⟩ = some (.int .u16 z2) := cell_on hb6 l1_5
  have j0_6 : w6.cell? ⟨w3.heap.size, 0, none⟩ = some (.int .u16 0) := cell_on hb6 j0_5
  have j1_6 : w6.cell? ⟨w3.heap.size, 1, none⟩ = some (.int .u16 0) := cell_on hb6 j1_5
  have hg6_0 : w.heap.size < w6.heap.size := by omega
  have hg6_1 : w.heap.size + 1 < w6.heap.size := by omega
  have hg6_2 : w1.heap.size < w6.heap.size := by omega
  have hg6_3 : w2.heap.size < w6.heap.size := by omega
  have hg6_4 : w3.heap.size < w6.heap.size := by omega
  have hl6 : w.heap.size ≤ w6.heap.size := by omega
  have hw6 : Hid (Below w.heap.size w w6) := hw5.out.trans (hb6.mono (by first | omega | (simp; done) | (simp; omega)))
  clear hb6 a0_5 a1_5 d0_5 d1_5 k0_5 k1_5 l0_5 l1_5 j0_5 j1_5 hg5_0 hg5_1 hg5_2 hg5_3 hg5_4 hw5
  go_wp2
  go_ret
  exact ⟨rfl, hw6.out⟩
set_option maxHeartbeats 4000000 in
theorem expandMeets_x0 (b : Nat) (n : Int) (c : Nat) (m : Int) (q x z x2 z2 : Nat) 
    (c1 : ∀ W, Calls Try.prog 9 #[.agg #[.int .u16 b, .int .i64 n]] W fun e w' => e = .returned (.tuple #[.agg #[.int .u16 (x : Nat), .int .u16 (z : Nat)], .int .i64 0]) ∧ Below W.heap.size W w')
    (c2 : ∀ W, Calls Try.prog 9 #[.agg #[.int .u16 c, .int .i64 m]] W fun e w' => e = .returned (.tuple #[.agg #[.int .u16 (x2 : Nat), .int .u16 (z2 : Nat)], .int .i64 0]) ∧ Below W.heap.size W w')
    (c3 : ∀ W, Calls Try.prog 31 #[.agg #[.int .u16 (x : Nat), .int .u16 (z : Nat)], .agg #[.int .u16 (x2 : Nat), .int .u16 (z2 : Nat)]] W fun e w' => e = .returned (.tuple #[.agg #[.int .u16 (x : Nat), .int .u16 (z : Nat)], .bool true]) ∧ Below W.heap.size W w')
    (c4 : ∀ W, Calls Try.prog 14 #[.agg #[.int .u16 b, .int .i64 n], .int .u16 q] W fun e w' => e = .returned (.bool false) ∧ Below W.heap.size W w')
    (c6 : ∀ W, Calls Try.prog 30 #[.agg #[.int .u16 (x : Nat), .int .u16 (z : Nat)], .int .u16 q] W fun e w' => e = .returned (.bool false) ∧ Below W.heap.size W w')
    (ca : ∀ W, Calls Try.prog 11 #[] W fun e w' => e = .returned (.bool true) ∧ Below W.heap.size W w') (w : World) :
    Calls Try.prog 8 #[.agg #[.int .u16 b, .int .i64 n], .agg #[.int .u16 c, .int .i64 m], .int .u16 q] w fun e w' => e = .returned (.bool true) ∧ Below w.heap.size w w' := by
  go_enter Try.func8, Try.ntmps8
  go_wp2_with (fail)
  refine (c1 _).mono ?_
  rintro e w1 ⟨rfl, hb1⟩
  have hz1 := hb1.size
  (try simp at hz1)
  have a0_1 : w1.cell? ⟨w.heap.size, 0, none⟩ = some (.int .u16 b) := cell_on hb1 (show ((w.alloc (.cells #[.int .u16 b, .int .i64 n] 24)).alloc (.cells #[.int .u16 c, .int .i64 m] 24)).cell? ⟨w.heap.size, 0, none⟩ = some (.int .u16 b) from by simp [go_sem])
  have a1_1 : w1.cell? ⟨w.heap.size, 1, none⟩ = some (.int .i64 n) := cell_on hb1 (show ((w.alloc (.cells #[.int .u16 b, .int .i64 n] 24)).alloc (.cells #[.int .u16 c, .int .i64 m] 24)).cell? ⟨w.heap.size, 1, none⟩ = some (.int .i64 n) from by simp [go_sem])
  have d0_1 : w1.cell? ⟨w.heap.size + 1, 0, none⟩ = some (.int .u16 c) := cell_on hb1 (show ((w.alloc (.cells #[.int .u16 b, .int .i64 n] 24)).alloc (.cells #[.int .u16 c, .int .i64 m] 24)).cell? ⟨w.heap.size + 1, 0, none⟩ = some (.int .u16 c) from by simp [go_sem])
  have d1_1 : w1.cell? ⟨w.heap.size + 1, 1, none⟩ = some (.int .i64 m) := cell_on hb1 (show ((w.alloc (.cells #[.int .u16 b, .int .i64 n] 24)).alloc (.cells #[.int .u16 c, .int .i64 m] 24)).cell? ⟨w.heap.size + 1, 1, none⟩ = some (.int .i64 m) from by simp [go_sem])
  have hg1_0 : w.heap.size < w1.heap.size := by omega
  have hg1_1 : w.heap.size + 1 < w1.heap.size := by omega
  have hl1 : w.heap.size ≤ w1.heap.size := by omega
  have hw1 : Hid (Below w.heap.size w w1) := (((Below.refl _ _).alloc (by first | omega | (simp; done) | (simp; omega)) _).alloc (by first | omega | (simp; done) | (simp; omega)) _).trans (hb1.mono (by first | omega | (simp; done) | (simp; omega)))
  clear hb1
  go_wp2_with (fail)
  refine (c2 _).mono ?_
  rintro e w2 ⟨rfl, hb2⟩
  have hz2 := hb2.size
  (try simp at hz2)
  have a0_2 : w2.cell? ⟨w.heap.size, 0, none⟩ = some (.int .u16 b) := cell_on hb2 (cell_alloc a0_1)
  have a1_2 : w2.cell? ⟨w.heap.size, 1, none⟩ = some (.int .i64 n) := cell_on hb2 (cell_alloc a1_1)
  have d0_2 : w2.cell? ⟨w.heap.size + 1, 0, none⟩ = some (.int .u16 c) := cell_on hb2 (cell_alloc d0_1)
  have d1_2 : w2.cell? ⟨w.heap.size + 1, 1, none⟩ = some (.int .i64 m) := cell_on hb2 (cell_alloc d1_1)
  have k0_2 : w2.cell? ⟨w1.heap.size, 0, none⟩ = some (.int .u16 x) := cell_on hb2 (show (w1.alloc (.cells #[.int .u16 x, .int .u16 z] 26)).cell? ⟨w1.heap.size, 0, none⟩ = some (.int .u16 x) from by simp [go_sem])
  have k1_2 : w2.cell? ⟨w1.heap.size, 1, none⟩ = some (.int .u16 z) := cell_on hb2 (show (w1.alloc (.cells #[.int .u16 x, .int .u16 z] 26)).cell? ⟨w1.heap.size, 1, none⟩ = some (.int .u16 z) from by simp [go_sem])
  have hg2_0 : w.heap.size < w2.heap.size := by omega
  have hg2_1 : w.heap.size + 1 < w2.heap.size := by omega
  have hg2_2 : w1.heap.size < w2.heap.size := by omega
  have hl2 : w.heap.size ≤ w2.heap.size := by omega
  have hw2 : Hid (Below w.heap.size w w2) := (hw1.out.alloc (by first | omega | (simp; done) | (simp; omega)) _).trans (hb2.mono (by first | omega | (simp; done) | (simp; omega)))
  clear hb2 a0_1 a1_1 d0_1 d1_1 hg1_0 hg1_1 hw1
  go_wp2_with (fail)
  refine (c3 _).mono ?_
  rintro e w3 ⟨rfl, hb3⟩
  have hz3 := hb3.size
  (try simp at hz3)
  have a0_3 : w3.cell? ⟨w.heap.size, 0, none⟩ = some (.int .u16 b) := cell_on hb3 (cell_alloc a0_2)
  have a1_3 : w3.cell? ⟨w.heap.size, 1, none⟩ = some (.int .i64 n) := cell_on hb3 (cell_alloc a1_2)
  have d0_3 : w3.cell? ⟨w.heap.size + 1, 0, none⟩ = some (.int .u16 c) := cell_on hb3 (cell_alloc d0_2)
  have d1_3 : w3.cell? ⟨w.heap.size + 1, 1, none⟩ = some (.int .i64 m) := cell_on hb3 (cell_alloc d1_2)
  have k0_3 : w3.cell? ⟨w1.heap.size, 0, none⟩ = some (.int .u16 x) := cell_on hb3 (cell_alloc k0_2)
  have k1_3 : w3.cell? ⟨w1.heap.size, 1, none⟩ = some (.int .u16 z) := cell_on hb3 (cell_alloc k1_2)
  have l0_3 : w3.cell? ⟨w2.heap.size, 0, none⟩ = some (.int .u16 x2) := cell_on hb3 (show (w2.alloc (.cells #[.int .u16 x2, .int .u16 z2] 26)).cell? ⟨w2.heap.size, 0, none⟩ = some (.int .u16 x2) from by simp [go_sem])
  have l1_3 : w3.cell? ⟨w2.heap.size, 1, none⟩ = some (.int .u16 z2) := cell_on hb3 (show (w2.alloc (.cells #[.int .u16 x2, .int .u16 z2] 26)).cell? ⟨w2.heap.size, 1, none⟩ = some (.int .u16 z2) from by simp [go_sem])
  have hg3_0 : w.heap.size < w3.heap.size := by omega
  have hg3_1 : w.heap.size + 1 < w3.heap.size := by omega
  have hg3_2 : w1.heap.size < w3.heap.size := by omega
  have hg3_3 : w2.heap.size < w3.heap.size := by omega
  have hl3 : w.heap.size ≤ w3.heap.size := by omega
  have hw3 : Hid (Below w.heap.size w w3) := (hw2.out.alloc (by first | omega | (simp; done) | (simp; omega)) _).trans (hb3.mono (by first | omega | (simp; done) | (simp; omega)))
  clear hb3 a0_2 a1_2 d0_2 d1_2 k0_2 k1_2 hg2_0 hg2_1 hg2_2 hw2
  go_wp2_with (fail)
  refine (c4 _).mono ?_
  rintro e w4 ⟨rfl, hb4⟩
  have hz4 := hb4.size
  (try simp at hz4)
  have a0_4 : w4.cell? ⟨w.heap.size, 0, none⟩ = some (.int .u16 b) := cell_on hb4 (cell_alloc a0_3)
  have a1_4 : w4.cell? ⟨w.heap.size, 1, none⟩ = some (.int .i64 n) := cell_on hb4 (cell_alloc a1_3)
  have d0_4 : w4.cell? ⟨w.heap.size + 1, 0, none⟩ = some (.int .u16 c) := cell_on hb4 (cell_alloc d0_3)
  have d1_4 : w4.cell? ⟨w.heap.size + 1, 1, none⟩ = some (.int .i64 m) := cell_on hb4 (cell_alloc d1_3)
  have k0_4 : w4.cell? ⟨w1.heap.size, 0, none⟩ = some (.int .u16 x) := cell_on hb4 (cell_alloc k0_3)
  have k1_4 : w4.cell? ⟨w1.heap.size, 1, none⟩ = some (.int .u16 z) := cell_on hb4 (cell_alloc k1_3)
  have l0_4 : w4.cell? ⟨w2.heap.size, 0, none⟩ = some (.int .u16 x2) := cell_on hb4 (cell_alloc l0_3)
  have l1_4 : w4.cell? ⟨w2.heap.size, 1, none⟩ = some (.int .u16 z2) := cell_on hb4 (cell_alloc l1_3)
  have j0_4 : w4.cell? ⟨w3.heap.size, 0, none⟩ = some (.int .u16 (x : Nat)) := cell_on hb4 (show (w3.alloc (.cells #[.int .u16 (x : Nat), .int .u16 (z : Nat)] 26)).cell? ⟨w3.heap.size, 0, none⟩ = some (.int .u16 (x : Nat)) from by simp [go_sem])
  have j1_4 : w4.cell? ⟨w3.heap.size, 1, none⟩ = some (.int .u16 (z : Nat)) := cell_on hb4 (show (w3.alloc (.cells #[.int .u16 (x : Nat), .int .u16 (z : Nat)] 26)).cell? ⟨w3.heap.size, 1, none⟩ = some (.int .u16 (z : Nat)) from by simp [go_sem])
  have hg4_0 : w.heap.size < w4.heap.size := by omega
  have hg4_1 : w.heap.size + 1 < w4.heap.size := by omega
  have hg4_2 : w1.heap.size < w4.heap.size := by omega
  have hg4_3 : w2.heap.size < w4.heap.size := by omega
  have hg4_4 : w3.heap.size < w4.heap.size := by omega
  have hl4 : w.heap.size ≤ w4.heap.size := by omega
  have hw4 : Hid (Below w.heap.size w w4) := (hw3.out.alloc (by first | omega | (simp; done) | (simp; omega)) _).trans (hb4.mono (by first | omega | (simp; done) | (simp; omega)))
  clear hb4 a0_3 a1_3 d0_3 d1_3 k0_3 k1_3 l0_3 l1_3 hg3_0 hg3_1 hg3_2 hg3_3 hw3
  go_wp2_with (fail)
  refine (ca _).mono ?_
  rintro e w5 ⟨rfl, hb5⟩
  have hz5 := hb5.size
  (try simp at hz5)
  have a0_5 : w5.cell? ⟨w.heap.size, 0, none⟩ = some (.int .u16 b) := cell_on hb5 a0_4
  have a1_5 : w5.cell? ⟨w.heap.size, 1, none⟩ = some (.int .i64 n) := cell_on hb5 a1_4
  have d0_5 : w5.cell? ⟨w.heap.size + 1, 0, none⟩ = some (.int .u16 c) := cell_on hb5 d0_4
  have d1_5 : w5.cell? ⟨w.heap.size + 1, 1, none⟩ = some (.int .i64 m) := cell_on hb5 d1_4
  have k0_5 : w5.cell? ⟨w1.heap.size, 0, none⟩ = some (.int .u16 x) := cell_on hb5 k0_4
  have k1_5 : w5.cell? ⟨w1.heap.size, 1, none⟩ = some (.int .u16 z) := cell_on hb5 k1_4
  have l0_5 : w5.cell? ⟨w2.heap.size, 0, none⟩ = some (.int .u16 x2) := cell_on hb5 l0_4
  have l1_5 : w5.cell? ⟨w2.heap.size, 1, none⟩ = some (.int .u16 z2) := cell_on hb5 l1_4
  have j0_5 : w5.cell? ⟨w3.heap.size, 0, none⟩ = some (.int .u16 (x : Nat)) := cell_on hb5 j0_4
  have j1_5 : w5.cell? ⟨w3.heap.size, 1, none⟩ = some (.int .u16 (z : Nat)) := cell_on hb5 j1_4
  have hg5_0 : w.heap.size < w5.heap.size := by omega
  have hg5_1 : w.heap.size + 1 < w5.heap.size := by omega
  have hg5_2 : w1.heap.size < w5.heap.size := by omega
  have hg5_3 : w2.heap.size < w5.heap.size := by omega
  have hg5_4 : w3.heap.size < w5.heap.size := by omega
  have hl5 : w.heap.size ≤ w5.heap.size := by omega
  have hw5 : Hid (Below w.heap.size w w5) := hw4.out.trans (hb5.mono (by first | omega | (simp; done) | (simp; omega)))
  clear hb5 a0_4 a1_4 d0_4 d1_4 k0_4 k1_4 l0_4 l1_4 j0_4 j1_4 hg4_0 hg4_1 hg4_2 hg4_3 hg4_4 hw4
  go_wp2_with (fail)
  refine (c6 _).mono ?_
  rintro e w6 ⟨rfl, hb6⟩
  have hz6 := hb6.size
  (try simp at hz6)
  have a0_6 : w6.cell? ⟨w.heap.size, 0, none⟩ = some (.int .u16 b) := cell_on hb6 a0_5
  have a1_6 : w6.cell? ⟨w.heap.size, 1, none⟩ = some (.int .i64 n) := cell_on hb6 a1_5
  have d0_6 : w6.cell? ⟨w.heap.size + 1, 0, none⟩ = some (.int .u16 c) := cell_on hb6 d0_5
  have d1_6 : w6.cell? ⟨w.heap.size + 1, 1, none⟩ = some (.int .i64 m) := cell_on hb6 d1_5
  have k0_6 : w6.cell? ⟨w1.heap.size, 0, none⟩ = some (.int .u16 x) := cell_on hb6 k0_5
  have k1_6 : w6.cell? ⟨w1.heap.size, 1, none⟩ = some (.int .u16 z) := cell_on hb6 k1_5
  have l0_6 : w6.cell? ⟨w2.heap.size, 0, none⟩ = some (.int .u16 x2) := cell_on hb6 l0_5
  have l1_6 : w6.cell? ⟨w2.heap.size, 1, none⟩ = some (.int .u16 z2) := cell_on hb6 l1_5
  have j0_6 : w6.cell? ⟨w3.heap.size, 0, none⟩ = some (.int .u16 (x : Nat)) := cell_on hb6 j0_5
  have j1_6 : w6.cell? ⟨w3.heap.size, 1, none⟩ = some (.int .u16 (z : Nat)) := cell_on hb6 j1_5
  have hg6_0 : w.heap.size < w6.heap.size := by omega
  have hg6_1 : w.heap.size + 1 < w6.heap.size := by omega
  have hg6_2 : w1.heap.size < w6.heap.size := by omega
  have hg6_3 : w2.heap.size < w6.heap.size := by omega
  have hg6_4 : w3.heap.size < w6.heap.size := by omega
  have hl6 : w.heap.size ≤ w6.heap.size := by omega
  have hw6 : Hid (Below w.heap.size w w6) := hw5.out.trans (hb6.mono (by first | omega | (simp; done) | (simp; omega)))
  clear hb6 a0_5 a1_5 d0_5 d1_5 k0_5 k1_5 l0_5 l1_5 j0_5 j1_5 hg5_0 hg5_1 hg5_2 hg5_3 hg5_4 hw5
  go_wp2
  go_ret
  exact ⟨rfl, hw6.out⟩
set_option maxHeartbeats 4000000 in
theorem expandMeets_x10 (b : Nat) (n : Int) (c : Nat) (m : Int) (q x z x2 z2 : Nat) 
    (c1 : ∀ W, Calls Try.prog 9 #[.agg #[.int .u16 b, .int .i64 n]] W fun e w' => e = .returned (.tuple #[.agg #[.int .u16 (x : Nat), .int .u16 (z : Nat)], .int .i64 0]) ∧ Below W.heap.size W w')
    (c2 : ∀ W, Calls Try.prog 9 #[.agg #[.int .u16 c, .int .i64 m]] W fun e w' => e = .returned (.tuple #[.agg #[.int .u16 (x2 : Nat), .int .u16 (z2 : Nat)], .int .i64 0]) ∧ Below W.heap.size W w')
    (c3 : ∀ W, Calls Try.prog 31 #[.agg #[.int .u16 (x : Nat), .int .u16 (z : Nat)], .agg #[.int .u16 (x2 : Nat), .int .u16 (z2 : Nat)]] W fun e w' => e = .returned (.tuple #[.agg #[.int .u16 (x : Nat), .int .u16 (z : Nat)], .bool true]) ∧ Below W.heap.size W w')
    (c4 : ∀ W, Calls Try.prog 14 #[.agg #[.int .u16 b, .int .i64 n], .int .u16 q] W fun e w' => e = .returned (.bool true) ∧ Below W.heap.size W w')
    (c5 : ∀ W, Calls Try.prog 14 #[.agg #[.int .u16 c, .int .i64 m], .int .u16 q] W fun e w' => e = .returned (.bool false) ∧ Below W.heap.size W w')
    (c6 : ∀ W, Calls Try.prog 30 #[.agg #[.int .u16 (x : Nat), .int .u16 (z : Nat)], .int .u16 q] W fun e w' => e = .returned (.bool false) ∧ Below W.heap.size W w')
    (ca : ∀ W, Calls Try.prog 11 #[] W fun e w' => e = .returned (.bool true) ∧ Below W.heap.size W w') (w : World) :
    Calls Try.prog 8 #[.agg #[.int .u16 b, .int .i64 n], .agg #[.int .u16 c, .int .i64 m], .int .u16 q] w fun e w' => e = .returned (.bool true) ∧ Below w.heap.size w w' := by
  go_enter Try.func8, Try.ntmps8
  go_wp2_with (fail)
  refine (c1 _).mono ?_
  rintro e w1 ⟨rfl, hb1⟩
  have hz1 := hb1.size
  (try simp at hz1)
  have a0_1 : w1.cell? ⟨w.heap.size, 0, none⟩ = some (.int .u16 b) := cell_on hb1 (show ((w.alloc (.cells #[.int .u16 b, .int .i64 n] 24)).alloc (.cells #[.int .u16 c, .int .i64 m] 24)).cell? ⟨w.heap.size, 0, none⟩ = some (.int .u16 b) from by simp [go_sem])
  have a1_1 : w1.cell? ⟨w.heap.size, 1, none⟩ = some (.int .i64 n) := cell_on hb1 (show ((w.alloc (.cells #[.int .u16 b, .int .i64 n] 24)).alloc (.cells #[.int .u16 c, .int .i64 m] 24)).cell? ⟨w.heap.size, 1, none⟩ = some (.int .i64 n) from by simp [go_sem])
  have d0_1 : w1.cell? ⟨w.heap.size + 1, 0, none⟩ = some (.int .u16 c) := cell_on hb1 (show ((w.alloc (.cells #[.int .u16 b, .int .i64 n] 24)).alloc (.cells #[.int .u16 c, .int .i64 m] 24)).cell? ⟨w.heap.size + 1, 0, none⟩ = some (.int .u16 c) from by simp [go_sem])
  have d1_1 : w1.cell? ⟨w.heap.size + 1, 1, none⟩ = some (.int .i64 m) := cell_on hb1 (show ((w.alloc (.cells #[.int .u16 b, .int .i64 n] 24)).alloc (.cells #[.int .u16 c, .int .i64 m] 24)).cell? ⟨w.heap.size + 1, 1, none⟩ = some (.int .i64 m) from by simp [go_sem])
  have hg1_0 : w.heap.size < w1.heap.size := by omega
  have hg1_1 : w.heap.size + 1 < w1.heap.size := by omega
  have hl1 : w.heap.size ≤ w1.heap.size := by omega
  have hw1 : Hid (Below w.heap.size w w1) := (((Below.refl _ _).alloc (by first | omega | (simp; done) | (simp; omega)) _).alloc (by first | omega | (simp; done) | (simp; omega)) _).trans (hb1.mono (by first | omega | (simp; done) | (simp; omega)))
  clear hb1
  go_wp2_with (fail)
  refine (c2 _).mono ?_
  rintro e w2 ⟨rfl, hb2⟩
  have hz2 := hb2.size
  (try simp at hz2)
  have a0_2 : w2.cell? ⟨w.heap.size, 0, none⟩ = some (.int .u16 b) := cell_on hb2 (cell_alloc a0_1)
  have a1_2 : w2.cell? ⟨w.heap.size, 1, none⟩ = some (.int .i64 n) := cell_on hb2 (cell_alloc a1_1)
  have d0_2 : w2.cell? ⟨w.heap.size + 1, 0, none⟩ = some (.int .u16 c) := cell_on hb2 (cell_alloc d0_1)
  have d1_2 : w2.cell? ⟨w.heap.size + 1, 1, none⟩ = some (.int .i64 m) := cell_on hb2 (cell_alloc d1_1)
  have k0_2 : w2.cell? ⟨w1.heap.size, 0, none⟩ = some (.int .u16 x) := cell_on hb2 (show (w1.alloc (.cells #[.int .u16 x, .int .u16 z] 26)).cell? ⟨w1.heap.size, 0, none⟩ = some (.int .u16 x) from by simp [go_sem])
  have k1_2 : w2.cell? ⟨w1.heap.size, 1, none⟩ = some (.int .u16 z) := cell_on hb2 (show (w1.alloc (.cells #[.int .u16 x, .int .u16 z] 26)).cell? ⟨w1.heap.size, 1, none⟩ = some (.int .u16 z) from by simp [go_sem])
  have hg2_0 : w.heap.size < w2.heap.size := by omega
  have hg2_1 : w.heap.size + 1 < w2.heap.size := by omega
  have hg2_2 : w1.heap.size < w2.heap.size := by omega
  have hl2 : w.heap.size ≤ w2.heap.size := by omega
  have hw2 : Hid (Below w.heap.size w w2) := (hw1.out.alloc (by first | omega | (simp; done) | (simp; omega)) _).trans (hb2.mono (by first | omega | (simp; done) | (simp; omega)))
  clear hb2 a0_1 a1_1 d0_1 d1_1 hg1_0 hg1_1 hw1
  go_wp2_with (fail)
  refine (c3 _).mono ?_
  rintro e w3 ⟨rfl, hb3⟩
  have hz3 := hb3.size
  (try simp at hz3)
  have a0_3 : w3.cell? ⟨w.heap.size, 0, none⟩ = some (.int .u16 b) := cell_on hb3 (cell_alloc a0_2)
  have a1_3 : w3.cell? ⟨w.heap.size, 1, none⟩ = some (.int .i64 n) := cell_on hb3 (cell_alloc a1_2)
  have d0_3 : w3.cell? ⟨w.heap.size + 1, 0, none⟩ = some (.int .u16 c) := cell_on hb3 (cell_alloc d0_2)
  have d1_3 : w3.cell? ⟨w.heap.size + 1, 1, none⟩ = some (.int .i64 m) := cell_on hb3 (cell_alloc d1_2)
  have k0_3 : w3.cell? ⟨w1.heap.size, 0, none⟩ = some (.int .u16 x) := cell_on hb3 (cell_alloc k0_2)
  have k1_3 : w3.cell? ⟨w1.heap.size, 1, none⟩ = some (.int .u16 z) := cell_on hb3 (cell_alloc k1_2)
  have l0_3 : w3.cell? ⟨w2.heap.size, 0, none⟩ = some (.int .u16 x2) := cell_on hb3 (show (w2.alloc (.cells #[.int .u16 x2, .int .u16 z2] 26)).cell? ⟨w2.heap.size, 0, none⟩ = some (.int .u16 x2) from by simp [go_sem])
  have l1_3 : w3.cell? ⟨w2.heap.size, 1, none⟩ = some (.int .u16 z2) := cell_on hb3 (show (w2.alloc (.cells #[.int .u16 x2, .int .u16 z2] 26)).cell? ⟨w2.heap.size, 1, none⟩ = some (.int .u16 z2) from by simp [go_sem])
  have hg3_0 : w.heap.size < w3.heap.size := by omega
  have hg3_1 : w.heap.size + 1 < w3.heap.size := by omega
  have hg3_2 : w1.heap.size < w3.heap.size := by omega
  have hg3_3 : w2.heap.size < w3.heap.size := by omega
  have hl3 : w.heap.size ≤ w3.heap.size := by omega
  have hw3 : Hid (Below w.heap.size w w3) := (hw2.out.alloc (by first | omega | (simp; done) | (simp; omega)) _).trans (hb3.mono (by first | omega | (simp; done) | (simp; omega)))
  clear hb3 a0_2 a1_2 d0_2 d1_2 k0_2 k1_2 hg2_0 hg2_1 hg2_2 hw2
  go_wp2_with (fail)
  refine (c4 _).mono ?_
  rintro e w4 ⟨rfl, hb4⟩
  have hz4 := hb4.size
  (try simp at hz4)
  have a0_4 : w4.cell? ⟨w.heap.size, 0, none⟩ = some (.int .u16 b) := cell_on hb4 (cell_alloc a0_3)
  have a1_4 : w4.cell? ⟨w.heap.size, 1, none⟩ = some (.int .i64 n) := cell_on hb4 (cell_alloc a1_3)
  have d0_4 : w4.cell? ⟨w.heap.size + 1, 0, none⟩ = some (.int .u16 c) := cell_on hb4 (cell_alloc d0_3)
  have d1_4 : w4.cell? ⟨w.heap.size + 1, 1, none⟩ = some (.int .i64 m) := cell_on hb4 (cell_alloc d1_3)
  have k0_4 : w4.cell? ⟨w1.heap.size, 0, none⟩ = some (.int .u16 x) := cell_on hb4 (cell_alloc k0_3)
  have k1_4 : w4.cell? ⟨w1.heap.size, 1, none⟩ = some (.int .u16 z) := cell_on hb4 (cell_alloc k1_3)
  have l0_4 : w4.cell? ⟨w2.heap.size, 0, none⟩ = some (.int .u16 x2) := cell_on hb4 (cell_alloc l0_3)
  have l1_4 : w4.cell? ⟨w2.heap.size, 1, none⟩ = some (.int .u16 z2) := cell_on hb4 (cell_alloc l1_3)
  have j0_4 : w4.cell? ⟨w3.heap.size, 0, none⟩ = some (.int .u16 (x : Nat)) := cell_on hb4 (show (w3.alloc (.cells #[.int .u16 (x : Nat), .int .u16 (z : Nat)] 26)).cell? ⟨w3.heap.size, 0, none⟩ = some (.int .u16 (x : Nat)) from by simp [go_sem])
  have j1_4 : w4.cell? ⟨w3.heap.size, 1, none⟩ = some (.int .u16 (z : Nat)) := cell_on hb4 (show (w3.alloc (.cells #[.int .u16 (x : Nat), .int .u16 (z : Nat)] 26)).cell? ⟨w3.heap.size, 1, none⟩ = some (.int .u16 (z : Nat)) from by simp [go_sem])
  have hg4_0 : w.heap.size < w4.heap.size := by omega
  have hg4_1 : w.heap.size + 1 < w4.heap.size := by omega
  have hg4_2 : w1.heap.size < w4.heap.size := by omega
  have hg4_3 : w2.heap.size < w4.heap.size := by omega
  have hg4_4 : w3.heap.size < w4.heap.size := by omega
  have hl4 : w.heap.size ≤ w4.heap.size := by omega
  have hw4 : Hid (Below w.heap.size w w4) := (hw3.out.alloc (by first | omega | (simp; done) | (simp; omega)) _).trans (hb4.mono (by first | omega | (simp; done) | (simp; omega)))
  clear hb4 a0_3 a1_3 d0_3 d1_3 k0_3 k1_3 l0_3 l1_3 hg3_0 hg3_1 hg3_2 hg3_3 hw3
  go_wp2_with (fail)
  refine (c5 _).mono ?_
  rintro e w5 ⟨rfl, hb5⟩
  have hz5 := hb5.size
  (try simp at hz5)
  have a0_5 : w5.cell? ⟨w.heap.size, 0, none⟩ = some (.int .u16 b) := cell_on hb5 a0_4
  have a1_5 : w5.cell? ⟨w.heap.size, 1, none⟩ = some (.int .i64 n) := cell_on hb5 a1_4
  have d0_5 : w5.cell? ⟨w.heap.size + 1, 0, none⟩ = some (.int .u16 c) := cell_on hb5 d0_4
  have d1_5 : w5.cell? ⟨w.heap.size + 1, 1, none⟩ = some (.int .i64 m) := cell_on hb5 d1_4
  have k0_5 : w5.cell? ⟨w1.heap.size, 0, none⟩ = some (.int .u16 x) := cell_on hb5 k0_4
  have k1_5 : w5.cell? ⟨w1.heap.size, 1, none⟩ = some (.int .u16 z) := cell_on hb5 k1_4
  have l0_5 : w5.cell? ⟨w2.heap.size, 0, none⟩ = some (.int .u16 x2) := cell_on hb5 l0_4
  have l1_5 : w5.cell? ⟨w2.heap.size, 1, none⟩ = some (.int .u16 z2) := cell_on hb5 l1_4
  have j0_5 : w5.cell? ⟨w3.heap.size, 0, none⟩ = some (.int .u16 (x : Nat)) := cell_on hb5 j0_4
  have j1_5 : w5.cell? ⟨w3.heap.size, 1, none⟩ = some (.int .u16 (z : Nat)) := cell_on hb5 j1_4
  have hg5_0 : w.heap.size < w5.heap.size := by omega
  have hg5_1 : w.heap.size + 1 < w5.heap.size := by omega
  have hg5_2 : w1.heap.size < w5.heap.size := by omega
  have hg5_3 : w2.heap.size < w5.heap.size := by omega
  have hg5_4 : w3.heap.size < w5.heap.size := by omega
  have hl5 : w.heap.size ≤ w5.heap.size := by omega
  have hw5 : Hid (Below w.heap.size w w5) := hw4.out.trans (hb5.mono (by first | omega | (simp; done) | (simp; omega)))
  clear hb5 a0_4 a1_4 d0_4 d1_4 k0_4 k1_4 l0_4 l1_4 j0_4 j1_4 hg4_0 hg4_1 hg4_2 hg4_3 hg4_4 hw4
  go_wp2_with (fail)
  refine (ca _).mono ?_
  rintro e w6 ⟨rfl, hb6⟩
  have hz6 := hb6.size
  (try simp at hz6)
  have a0_6 : w6.cell? ⟨w.heap.size, 0, none⟩ = some (.int .u16 b) := cell_on hb6 a0_5
  have a1_6 : w6.cell? ⟨w.heap.size, 1, none⟩ = some (.int .i64 n) := cell_on hb6 a1_5
  have d0_6 : w6.cell? ⟨w.heap.size + 1, 0, none⟩ = some (.int .u16 c) := cell_on hb6 d0_5
  have d1_6 : w6.cell? ⟨w.heap.size + 1, 1, none⟩ = some (.int .i64 m) := cell_on hb6 d1_5
  have k0_6 : w6.cell? ⟨w1.heap.size, 0, none⟩ = some (.int .u16 x) := cell_on hb6 k0_5
  have k1_6 : w6.cell? ⟨w1.heap.size, 1, none⟩ = some (.int .u16 z) := cell_on hb6 k1_5
  have l0_6 : w6.cell? ⟨w2.heap.size, 0, none⟩ = some (.int .u16 x2) := cell_on hb6 l0_5
  have l1_6 : w6.cell? ⟨w2.heap.size, 1, none⟩ = some (.int .u16 z2) := cell_on hb6 l1_5
  have j0_6 : w6.cell? ⟨w3.heap.size, 0, none⟩ = some (.int .u16 (x : Nat)) := cell_on hb6 j0_5
  have j1_6 : w6.cell? ⟨w3.heap.size, 1, none⟩ = some (.int .u16 (z : Nat)) := cell_on hb6 j1_5
  have hg6_0 : w.heap.size < w6.heap.size := by omega
  have hg6_1 : w.heap.size + 1 < w6.heap.size := by omega
  have hg6_2 : w1.heap.size < w6.heap.size := by omega
  have hg6_3 : w2.heap.size < w6.heap.size := by omega
  have hg6_4 : w3.heap.size < w6.heap.size := by omega
  have hl6 : w.heap.size ≤ w6.heap.size := by omega
  have hw6 : Hid (Below w.heap.size w w6) := hw5.out.trans (hb6.mono (by first | omega | (simp; done) | (simp; omega)))
  clear hb6 a0_5 a1_5 d0_5 d1_5 k0_5 k1_5 l0_5 l1_5 j0_5 j1_5 hg5_0 hg5_1 hg5_2 hg5_3 hg5_4 hw5
  go_wp2_with (fail)
  refine (c6 _).mono ?_
  rintro e w7 ⟨rfl, hb7⟩
  have hz7 := hb7.size
  (try simp at hz7)
  have a0_7 : w7.cell? ⟨w.heap.size, 0, none⟩ = some (.int .u16 b) := cell_on hb7 a0_6
  have a1_7 : w7.cell? ⟨w.heap.size, 1, none⟩ = some (.int .i64 n) := cell_on hb7 a1_6
  have d0_7 : w7.cell? ⟨w.heap.size + 1, 0, none⟩ = some (.int .u16 c) := cell_on hb7 d0_6
  have d1_7 : w7.cell? ⟨w.heap.size + 1, 1, none⟩ = some (.int .i64 m) := cell_on hb7 d1_6
  have k0_7 : w7.cell? ⟨w1.heap.size, 0, none⟩ = some (.int .u16 x) := cell_on hb7 k0_6
  have k1_7 : w7.cell? ⟨w1.heap.size, 1, none⟩ = some (.int .u16 z) := cell_on hb7 k1_6
  have l0_7 : w7.cell? ⟨w2.heap.size, 0, none⟩ = some (.int .u16 x2) := cell_on hb7 l0_6
  have l1_7 : w7.cell? ⟨w2.heap.size, 1, none⟩ = some (.int .u16 z2) := cell_on hb7 l1_6
  have j0_7 : w7.cell? ⟨w3.heap.size, 0, none⟩ = some (.int .u16 (x : Nat)) := cell_on hb7 j0_6
  have j1_7 : w7.cell? ⟨w3.heap.size, 1, none⟩ = some (.int .u16 (z : Nat)) := cell_on hb7 j1_6
  have hg7_0 : w.heap.size < w7.heap.size := by omega
  have hg7_1 : w.heap.size + 1 < w7.heap.size := by omega
  have hg7_2 : w1.heap.size < w7.heap.size := by omega
  have hg7_3 : w2.heap.size < w7.heap.size := by omega
  have hg7_4 : w3.heap.size < w7.heap.size := by omega
  have hl7 : w.heap.size ≤ w7.heap.size := by omega
  have hw7 : Hid (Below w.heap.size w w7) := hw6.out.trans (hb7.mono (by first | omega | (simp; done) | (simp; omega)))
  clear hb7 a0_6 a1_6 d0_6 d1_6 k0_6 k1_6 l0_6 l1_6 j0_6 j1_6 hg6_0 hg6_1 hg6_2 hg6_3 hg6_4 hw6
  go_wp2
  go_ret
  exact ⟨rfl, hw7.out⟩
set_option maxHeartbeats 4000000 in
theorem expandMeets_x11 (b : Nat) (n : Int) (c : Nat) (m : Int) (q x z x2 z2 : Nat) 
    (c1 : ∀ W, Calls Try.prog 9 #[.agg #[.int .u16 b, .int .i64 n]] W fun e w' => e = .returned (.tuple #[.agg #[.int .u16 (x : Nat), .int .u16 (z : Nat)], .int .i64 0]) ∧ Below W.heap.size W w')
    (c2 : ∀ W, Calls Try.prog 9 #[.agg #[.int .u16 c, .int .i64 m]] W fun e w' => e = .returned (.tuple #[.agg #[.int .u16 (x2 : Nat), .int .u16 (z2 : Nat)], .int .i64 0]) ∧ Below W.heap.size W w')
    (c3 : ∀ W, Calls Try.prog 31 #[.agg #[.int .u16 (x : Nat), .int .u16 (z : Nat)], .agg #[.int .u16 (x2 : Nat), .int .u16 (z2 : Nat)]] W fun e w' => e = .returned (.tuple #[.agg #[.int .u16 (x : Nat), .int .u16 (z : Nat)], .bool true]) ∧ Below W.heap.size W w')
    (c4 : ∀ W, Calls Try.prog 14 #[.agg #[.int .u16 b, .int .i64 n], .int .u16 q] W fun e w' => e = .returned (.bool true) ∧ Below W.heap.size W w')
    (c5 : ∀ W, Calls Try.prog 14 #[.agg #[.int .u16 c, .int .i64 m], .int .u16 q] W fun e w' => e = .returned (.bool true) ∧ Below W.heap.size W w')
    (c6 : ∀ W, Calls Try.prog 30 #[.agg #[.int .u16 (x : Nat), .int .u16 (z : Nat)], .int .u16 q] W fun e w' => e = .returned (.bool true) ∧ Below W.heap.size W w')
    (ca : ∀ W, Calls Try.prog 11 #[] W fun e w' => e = .returned (.bool true) ∧ Below W.heap.size W w') (w : World) :
    Calls Try.prog 8 #[.agg #[.int .u16 b, .int .i64 n], .agg #[.int .u16 c, .int .i64 m], .int .u16 q] w fun e w' => e = .returned (.bool true) ∧ Below w.heap.size w w' := by
  go_enter Try.func8, Try.ntmps8
  go_wp2_with (fail)
  refine (c1 _).mono ?_
  rintro e w1 ⟨rfl, hb1⟩
  have hz1 := hb1.size
  (try simp at hz1)
  have a0_1 : w1.cell? ⟨w.heap.size, 0, none⟩ = some (.int .u16 b) := cell_on hb1 (show ((w.alloc (.cells #[.int .u16 b, .int .i64 n] 24)).alloc (.cells #[.int .u16 c, .int .i64 m] 24)).cell? ⟨w.heap.size, 0, none⟩ = some (.int .u16 b) from by simp [go_sem])
  have a1_1 : w1.cell? ⟨w.heap.size, 1, none⟩ = some (.int .i64 n) := cell_on hb1 (show ((w.alloc (.cells #[.int .u16 b, .int .i64 n] 24)).alloc (.cells #[.int .u16 c, .int .i64 m] 24)).cell? ⟨w.heap.size, 1, none⟩ = some (.int .i64 n) from by simp [go_sem])
  have d0_1 : w1.cell? ⟨w.heap.size + 1, 0, none⟩ = some (.int .u16 c) := cell_on hb1 (show ((w.alloc (.cells #[.int .u16 b, .int .i64 n] 24)).alloc (.cells #[.int .u16 c, .int .i64 m] 24)).cell? ⟨w.heap.size + 1, 0, none⟩ = some (.int .u16 c) from by simp [go_sem])
  have d1_1 : w1.cell? ⟨w.heap.size + 1, 1, none⟩ = some (.int .i64 m) := cell_on hb1 (show ((w.alloc (.cells #[.int .u16 b, .int .i64 n] 24)).alloc (.cells #[.int .u16 c, .int .i64 m] 24)).cell? ⟨w.heap.size + 1, 1, none⟩ = some (.int .i64 m) from by simp [go_sem])
  have hg1_0 : w.heap.size < w1.heap.size := by omega
  have hg1_1 : w.heap.size + 1 < w1.heap.size := by omega
  have hl1 : w.heap.size ≤ w1.heap.size := by omega
  have hw1 : Hid (Below w.heap.size w w1) := (((Below.refl _ _).alloc (by first | omega | (simp; done) | (simp; omega)) _).alloc (by first | omega | (simp; done) | (simp; omega)) _).trans (hb1.mono (by first | omega | (simp; done) | (simp; omega)))
  clear hb1
  go_wp2_with (fail)
  refine (c2 _).mono ?_
  rintro e w2 ⟨rfl, hb2⟩
  have hz2 := hb2.size
  (try simp at hz2)
  have a0_2 : w2.cell? ⟨w.heap.size, 0, none⟩ = some (.int .u16 b) := cell_on hb2 (cell_alloc a0_1)
  have a1_2 : w2.cell? ⟨w.heap.size, 1, none⟩ = some (.int .i64 n) := cell_on hb2 (cell_alloc a1_1)
  have d0_2 : w2.cell? ⟨w.heap.size + 1, 0, none⟩ = some (.int .u16 c) := cell_on hb2 (cell_alloc d0_1)
  have d1_2 : w2.cell? ⟨w.heap.size + 1, 1, none⟩ = some (.int .i64 m) := cell_on hb2 (cell_alloc d1_1)
  have k0_2 : w2.cell? ⟨w1.heap.size, 0, none⟩ = some (.int .u16 x) := cell_on hb2 (show (w1.alloc (.cells #[.int .u16 x, .int .u16 z] 26)).cell? ⟨w1.heap.size, 0, none⟩ = some (.int .u16 x) from by simp [go_sem])
  have k1_2 : w2.cell? ⟨w1.heap.size, 1, none⟩ = some (.int .u16 z) := cell_on hb2 (show (w1.alloc (.cells #[.int .u16 x, .int .u16 z] 26)).cell? ⟨w1.heap.size, 1, none⟩ = some (.int .u16 z) from by simp [go_sem])
  have hg2_0 : w.heap.size < w2.heap.size := by omega
  have hg2_1 : w.heap.size + 1 < w2.heap.size := by omega
  have hg2_2 : w1.heap.size < w2.heap.size := by omega
  have hl2 : w.heap.size ≤ w2.heap.size := by omega
  have hw2 : Hid (Below w.heap.size w w2) := (hw1.out.alloc (by first | omega | (simp; done) | (simp; omega)) _).trans (hb2.mono (by first | omega | (simp; done) | (simp; omega)))
  clear hb2 a0_1 a1_1 d0_1 d1_1 hg1_0 hg1_1 hw1
  go_wp2_with (fail)
  refine (c3 _).mono ?_
  rintro e w3 ⟨rfl, hb3⟩
  have hz3 := hb3.size
  (try simp at hz3)
  have a0_3 : w3.cell? ⟨w.heap.size, 0, none⟩ = some (.int .u16 b) := cell_on hb3 (cell_alloc a0_2)
  have a1_3 : w3.cell? ⟨w.heap.size, 1, none⟩ = some (.int .i64 n) := cell_on hb3 (cell_alloc a1_2)
  have d0_3 : w3.cell? ⟨w.heap.size + 1, 0, none⟩ = some (.int .u16 c) := cell_on hb3 (cell_alloc d0_2)
  have d1_3 : w3.cell? ⟨w.heap.size + 1, 1, none⟩ = some (.int .i64 m) := cell_on hb3 (cell_alloc d1_2)
  have k0_3 : w3.cell? ⟨w1.heap.size, 0, none⟩ = some (.int .u16 x) := cell_on hb3 (cell_alloc k0_2)
  have k1_3 : w3.cell? ⟨w1.heap.size, 1, none⟩ = some (.int .u16 z) := cell_on hb3 (cell_alloc k1_2)
  have l0_3 : w3.cell? ⟨w2.heap.size, 0, none⟩ = some (.int .u16 x2) := cell_on hb3 (show (w2.alloc (.cells #[.int .u16 x2, .int .u16 z2] 26)).cell? ⟨w2.heap.size, 0, none⟩ = some (.int .u16 x2) from by simp [go_sem])
  have l1_3 : w3.cell? ⟨w2.heap.size, 1, none⟩ = some (.int .u16 z2) := cell_on hb3 (show (w2.alloc (.cells #[.int .u16 x2, .int .u16 z2] 26)).cell? ⟨w2.heap.size, 1, none⟩ = some (.int .u16 z2) from by simp [go_sem])
  have hg3_0 : w.heap.size < w3.heap.size := by omega
  have hg3_1 : w.heap.size + 1 < w3.heap.size := by omega
  have hg3_2 : w1.heap.size < w3.heap.size := by omega
  have hg3_3 : w2.heap.size < w3.heap.size := by omega
  have hl3 : w.heap.size ≤ w3.heap.size := by omega
  have hw3 : Hid (Below w.heap.size w w3) := (hw2.out.alloc (by first | omega | (simp; done) | (simp; omega)) _).trans (hb3.mono (by first | omega | (simp; done) | (simp; omega)))
  clear hb3 a0_2 a1_2 d0_2 d1_2 k0_2 k1_2 hg2_0 hg2_1 hg2_2 hw2
  go_wp2_with (fail)
  refine (c4 _).mono ?_
  rintro e w4 ⟨rfl, hb4⟩
  have hz4 := hb4.size
  (try simp at hz4)
  have a0_4 : w4.cell? ⟨w.heap.size, 0, none⟩ = some (.int .u16 b) := cell_on hb4 (cell_alloc a0_3)
  have a1_4 : w4.cell? ⟨w.heap.size, 1, none⟩ = some (.int .i64 n) := cell_on hb4 (cell_alloc a1_3)
  have d0_4 : w4.cell? ⟨w.heap.size + 1, 0, none⟩ = some (.int .u16 c) := cell_on hb4 (cell_alloc d0_3)
  have d1_4 : w4.cell? ⟨w.heap.size + 1, 1, none⟩ = some (.int .i64 m) := cell_on hb4 (cell_alloc d1_3)
  have k0_4 : w4.cell? ⟨w1.heap.size, 0, none⟩ = some (.int .u16 x) := cell_on hb4 (cell_alloc k0_3)
  have k1_4 : w4.cell? ⟨w1.heap.size, 1, none⟩ = some (.int .u16 z) := cell_on hb4 (cell_alloc k1_3)
  have l0_4 : w4.cell? ⟨w2.heap.size, 0, none⟩ = some (.int .u16 x2) := cell_on hb4 (cell_alloc l0_3)
  have l1_4 : w4.cell? ⟨w2.heap.size, 1, none⟩ = some (.int .u16 z2) := cell_on hb4 (cell_alloc l1_3)
  have j0_4 : w4.cell? ⟨w3.heap.size, 0, none⟩ = some (.int .u16 (x : Nat)) := cell_on hb4 (show (w3.alloc (.cells #[.int .u16 (x : Nat), .int .u16 (z : Nat)] 26)).cell? ⟨w3.heap.size, 0, none⟩ = some (.int .u16 (x : Nat)) from by simp [go_sem])
  have j1_4 : w4.cell? ⟨w3.heap.size, 1, none⟩ = some (.int .u16 (z : Nat)) := cell_on hb4 (show (w3.alloc (.cells #[.int .u16 (x : Nat), .int .u16 (z : Nat)] 26)).cell? ⟨w3.heap.size, 1, none⟩ = some (.int .u16 (z : Nat)) from by simp [go_sem])
  have hg4_0 : w.heap.size < w4.heap.size := by omega
  have hg4_1 : w.heap.size + 1 < w4.heap.size := by omega
  have hg4_2 : w1.heap.size < w4.heap.size := by omega
  have hg4_3 : w2.heap.size < w4.heap.size := by omega
  have hg4_4 : w3.heap.size < w4.heap.size := by omega
  have hl4 : w.heap.size ≤ w4.heap.size := by omega
  have hw4 : Hid (Below w.heap.size w w4) := (hw3.out.alloc (by first | omega | (simp; done) | (simp; omega)) _).trans (hb4.mono (by first | omega | (simp; done) | (simp; omega)))
  clear hb4 a0_3 a1_3 d0_3 d1_3 k0_3 k1_3 l0_3 l1_3 hg3_0 hg3_1 hg3_2 hg3_3 hw3
  go_wp2_with (fail)
  refine (c5 _).mono ?_
  rintro e w5 ⟨rfl, hb5⟩
  have hz5 := hb5.size
  (try simp at hz5)
  have a0_5 : w5.cell? ⟨w.heap.size, 0, none⟩ = some (.int .u16 b) := cell_on hb5 a0_4
  have a1_5 : w5.cell? ⟨w.heap.size, 1, none⟩ = some (.int .i64 n) := cell_on hb5 a1_4
  have d0_5 : w5.cell? ⟨w.heap.size + 1, 0, none⟩ = some (.int .u16 c) := cell_on hb5 d0_4
  have d1_5 : w5.cell? ⟨w.heap.size + 1, 1, none⟩ = some (.int .i64 m) := cell_on hb5 d1_4
  have k0_5 : w5.cell? ⟨w1.heap.size, 0, none⟩ = some (.int .u16 x) := cell_on hb5 k0_4
  have k1_5 : w5.cell? ⟨w1.heap.size, 1, none⟩ = some (.int .u16 z) := cell_on hb5 k1_4
  have l0_5 : w5.cell? ⟨w2.heap.size, 0, none⟩ = some (.int .u16 x2) := cell_on hb5 l0_4
  have l1_5 : w5.cell? ⟨w2.heap.size, 1, none⟩ = some (.int .u16 z2) := cell_on hb5 l1_4
  have j0_5 : w5.cell? ⟨w3.heap.size, 0, none⟩ = some (.int .u16 (x : Nat)) := cell_on hb5 j0_4
  have j1_5 : w5.cell? ⟨w3.heap.size, 1, none⟩ = some (.int .u16 (z : Nat)) := cell_on hb5 j1_4
  have hg5_0 : w.heap.size < w5.heap.size := by omega
  have hg5_1 : w.heap.size + 1 < w5.heap.size := by omega
  have hg5_2 : w1.heap.size < w5.heap.size := by omega
  have hg5_3 : w2.heap.size < w5.heap.size := by omega
  have hg5_4 : w3.heap.size < w5.heap.size := by omega
  have hl5 : w.heap.size ≤ w5.heap.size := by omega
  have hw5 : Hid (Below w.heap.size w w5) := hw4.out.trans (hb5.mono (by first | omega | (simp; done) | (simp; omega)))
  clear hb5 a0_4 a1_4 d0_4 d1_4 k0_4 k1_4 l0_4 l1_4 j0_4 j1_4 hg4_0 hg4_1 hg4_2 hg4_3 hg4_4 hw4
  go_wp2_with (fail)
  refine (ca _).mono ?_
  rintro e w6 ⟨rfl, hb6⟩
  have hz6 := hb6.size
  (try simp at hz6)
  have a0_6 : w6.cell? ⟨w.heap.size, 0, none⟩ = some (.int .u16 b) := cell_on hb6 a0_5
  have a1_6 : w6.cell? ⟨w.heap.size, 1, none⟩ = some (.int .i64 n) := cell_on hb6 a1_5
  have d0_6 : w6.cell? ⟨w.heap.size + 1, 0, none⟩ = some (.int .u16 c) := cell_on hb6 d0_5
  have d1_6 : w6.cell? ⟨w.heap.size + 1, 1, none⟩ = some (.int .i64 m) := cell_on hb6 d1_5
  have k0_6 : w6.cell? ⟨w1.heap.size, 0, none⟩ = some (.int .u16 x) := cell_on hb6 k0_5
  have k1_6 : w6.cell? ⟨w1.heap.size, 1, none⟩ = some (.int .u16 z) := cell_on hb6 k1_5
  have l0_6 : w6.cell? ⟨w2.heap.size, 0, none⟩ = some (.int .u16 x2) := cell_on hb6 l0_5
  have l1_6 : w6.cell? ⟨w2.heap.size, 1, none⟩ = some (.int .u16 z2) := cell_on hb6 l1_5
  have j0_6 : w6.cell? ⟨w3.heap.size, 0, none⟩ = some (.int .u16 (x : Nat)) := cell_on hb6 j0_5
  have j1_6 : w6.cell? ⟨w3.heap.size, 1, none⟩ = some (.int .u16 (z : Nat)) := cell_on hb6 j1_5
  have hg6_0 : w.heap.size < w6.heap.size := by omega
  have hg6_1 : w.heap.size + 1 < w6.heap.size := by omega
  have hg6_2 : w1.heap.size < w6.heap.size := by omega
  have hg6_3 : w2.heap.size < w6.heap.size := by omega
  have hg6_4 : w3.heap.size < w6.heap.size := by omega
  have hl6 : w.heap.size ≤ w6.heap.size := by omega
  have hw6 : Hid (Below w.heap.size w w6) := hw5.out.trans (hb6.mono (by first | omega | (simp; done) | (simp; omega)))
  clear hb6 a0_5 a1_5 d0_5 d1_5 k0_5 k1_5 l0_5 l1_5 j0_5 j1_5 hg5_0 hg5_1 hg5_2 hg5_3 hg5_4 hw5
  go_wp2_with (fail)
  refine (c6 _).mono ?_
  rintro e w7 ⟨rfl, hb7⟩
  have hz7 := hb7.size
  (try simp at hz7)
  have a0_7 : w7.cell? ⟨w.heap.size, 0, none⟩ = some (.int .u16 b) := cell_on hb7 a0_6
  have a1_7 : w7.cell? ⟨w.heap.size, 1, none⟩ = some (.int .i64 n) := cell_on hb7 a1_6
  have d0_7 : w7.cell? ⟨w.heap.size + 1, 0, none⟩ = some (.int .u16 c) := cell_on hb7 d0_6
  have d1_7 : w7.cell? ⟨w.heap.size + 1, 1, none⟩ = some (.int .i64 m) := cell_on hb7 d1_6
  have k0_7 : w7.cell? ⟨w1.heap.size, 0, none⟩ = some (.int .u16 x) := cell_on hb7 k0_6
  have k1_7 : w7.cell? ⟨w1.heap.size, 1, none⟩ = some (.int .u16 z) := cell_on hb7 k1_6
  have l0_7 : w7.cell? ⟨w2.heap.size, 0, none⟩ = some (.int .u16 x2) := cell_on hb7 l0_6
  have l1_7 : w7.cell? ⟨w2.heap.size, 1, none⟩ = some (.int .u16 z2) := cell_on hb7 l1_6
  have j0_7 : w7.cell? ⟨w3.heap.size, 0, none⟩ = some (.int .u16 (x : Nat)) := cell_on hb7 j0_6
  have j1_7 : w7.cell? ⟨w3.heap.size, 1, none⟩ = some (.int .u16 (z : Nat)) := cell_on hb7 j1_6
  have hg7_0 : w.heap.size < w7.heap.size := by omega
  have hg7_1 : w.heap.size + 1 < w7.heap.size := by omega
  have hg7_2 : w1.heap.size < w7.heap.size := by omega
  have hg7_3 : w2.heap.size < w7.heap.size := by omega
  have hg7_4 : w3.heap.size < w7.heap.size := by omega
  have hl7 : w.heap.size ≤ w7.heap.size := by omega
  have hw7 : Hid (Below w.heap.size w w7) := hw6.out.trans (hb7.mono (by first | omega | (simp; done) | (simp; omega)))
  clear hb7 a0_6 a1_6 d0_6 d1_6 k0_6 k1_6 l0_6 l1_6 j0_6 j1_6 hg6_0 hg6_1 hg6_2 hg6_3 hg6_4 hw6
  go_wp2
  go_ret
  exact ⟨rfl, hw7.out⟩
set_option maxHeartbeats 4000000 in
theorem expandMeets_y0 (b : Nat) (n : Int) (c : Nat) (m : Int) (q x z x2 z2 : Nat) (hne : ¬ x2 = x)
    (c1 : ∀ W, Calls Try.prog 9 #[.agg #[.int .u16 b, .int .i64 n]] W fun e w' => e = .returned (.tuple #[.agg #[.int .u16 (x : Nat), .int .u16 (z : Nat)], .int .i64 0]) ∧ Below W.heap.size W w')
    (c2 : ∀ W, Calls Try.prog 9 #[.agg #[.int .u16 c, .int .i64 m]] W fun e w' => e = .returned (.tuple #[.agg #[.int .u16 (x2 : Nat), .int .u16 (z2 : Nat)], .int .i64 0]) ∧ Below W.heap.size W w')
    (c3 : ∀ W, Calls Try.prog 31 #[.agg #[.int .u16 (x : Nat), .int .u16 (z : Nat)], .agg #[.int .u16 (x2 : Nat), .int .u16 (z2 : Nat)]] W fun e w' => e = .returned (.tuple #[.agg #[.int .u16 (x2 : Nat), .int .u16 (z2 : Nat)], .bool true]) ∧ Below W.heap.size W w')
    (c4 : ∀ W, Calls Try.prog 14 #[.agg #[.int .u16 b, .int .i64 n], .int .u16 q] W fun e w' => e = .returned (.bool false) ∧ Below W.heap.size W w')
    (c6 : ∀ W, Calls Try.prog 30 #[.agg #[.int .u16 (x2 : Nat), .int .u16 (z2 : Nat)], .int .u16 q] W fun e w' => e = .returned (.bool false) ∧ Below W.heap.size W w')
    (ca : ∀ W, Calls Try.prog 11 #[] W fun e w' => e = .returned (.bool true) ∧ Below W.heap.size W w') (w : World) :
    Calls Try.prog 8 #[.agg #[.int .u16 b, .int .i64 n], .agg #[.int .u16 c, .int .i64 m], .int .u16 q] w fun e w' => e = .returned (.bool true) ∧ Below w.heap.size w w' := by
  have hne1 : ¬ ((x2 : Int) = (x : Int)) := by omega
  clear hne
  go_enter Try.func8, Try.ntmps8
  go_wp2_with (fail)
  refine (c1 _).mono ?_
  rintro e w1 ⟨rfl, hb1⟩
  have hz1 := hb1.size
  (try simp at hz1)
  have a0_1 : w1.cell? ⟨w.heap.size, 0, none⟩ = some (.int .u16 b) := cell_on hb1 (show ((w.alloc (.cells #[.int .u16 b, .int .i64 n] 24)).alloc (.cells #[.int .u16 c, .int .i64 m] 24)).cell? ⟨w.heap.size, 0, none⟩ = some (.int .u16 b) from by simp [go_sem])
  have a1_1 : w1.cell? ⟨w.heap.size, 1, none⟩ = some (.int .i64 n) := cell_on hb1 (show ((w.alloc (.cells #[.int .u16 b, .int .i64 n] 24)).alloc (.cells #[.int .u16 c, .int .i64 m] 24)).cell? ⟨w.heap.size, 1, none⟩ = some (.int .i64 n) from by simp [go_sem])
  have d0_1 : w1.cell? ⟨w.heap.size + 1, 0, none⟩ = some (.int .u16 c) := cell_on hb1 (show ((w.alloc (.cells #[.int .u16 b, .int .i64 n] 24)).alloc (.cells #[.int .u16 c, .int .i64 m] 24)).cell? ⟨w.heap.size + 1, 0, none⟩ = some (.int .u16 c) from by simp [go_sem])
  have d1_1 : w1.cell? ⟨w.heap.size + 1, 1, none⟩ = some (.int .i64 m) := cell_on hb1 (show ((w.alloc (.cells #[.int .u16 b, .int .i64 n] 24)).alloc (.cells #[.int .u16 c, .int .i64 m] 24)).cell? ⟨w.heap.size + 1, 1, none⟩ = some (.int .i64 m) from by simp [go_sem])
  have hg1_0 : w.heap.size < w1.heap.size := by omega
  have hg1_1 : w.heap.size + 1 < w1.heap.size := by omega
  have hl1 : w.heap.size ≤ w1.heap.size := by omega
  have hw1 : Hid (Below w.heap.size w w1) := (((Below.refl _ _).alloc (by first | omega | (simp; done) | (simp; omega)) _).alloc (by first | omega | (simp; done) | (simp; omega)) _).trans (hb1.mono (by first | omega | (simp; done) | (simp; omega)))
  clear hb1
  go_wp2_with (fail)
  refine (c2 _).mono ?_
  rintro e w2 ⟨rfl, hb2⟩
  have hz2 := hb2.size
  (try simp at hz2)
  have a0_2 : w2.cell? ⟨w.heap.size, 0, none⟩ = some (.int .u16 b) := cell_on hb2 (cell_alloc a0_1)
  have a1_2 : w2.cell? ⟨w.heap.size, 1, none⟩ = some (.int .i64 n) := cell_on hb2 (cell_alloc a1_1)
  have d0_2 : w2.cell? ⟨w.heap.size + 1, 0, none⟩ = some (.int .u16 c) := cell_on hb2 (cell_alloc d0_1)
  have d1_2 : w2.cell? ⟨w.heap.size + 1, 1, none⟩ = some (.int .i64 m) := cell_on hb2 (cell_alloc d1_1)
  have k0_2 : w2.cell? ⟨w1.heap.size, 0, none⟩ = some (.int .u16 x) := cell_on hb2 (show (w1.alloc (.cells #[.int .u16 x, .int .u16 z] 26)).cell? ⟨w1.heap.size, 0, none⟩ = some (.int .u16 x) from by simp [go_sem])
  have k1_2 : w2.cell? ⟨w1.heap.size, 1, none⟩ = some (.int .u16 z) := cell_on hb2 (show (w1.alloc (.cells #[.int .u16 x, .int .u16 z] 26)).cell? ⟨w1.heap.size, 1, none⟩ = some (.int .u16 z) from by simp [go_sem])
  have hg2_0 : w.heap.size < w2.heap.size := by omega
  have hg2_1 : w.heap.size + 1 < w2.heap.size := by omega
  have hg2_2 : w1.heap.size < w2.heap.size := by omega
  have hl2 : w.heap.size ≤ w2.heap.size := by omega
  have hw2 : Hid (Below w.heap.size w w2) := (hw1.out.alloc (by first | omega | (simp; done) | (simp; omega)) _).trans (hb2.mono (by first | omega | (simp; done) | (simp; omega)))
  clear hb2 a0_1 a1_1 d0_1 d1_1 hg1_0 hg1_1 hw1
  go_wp2_with (fail)
  refine (c3 _).mono ?_
  rintro e w3 ⟨rfl, hb3⟩
  have hz3 := hb3.size
  (try simp at hz3)
  have a0_3 : w3.cell? ⟨w.heap.size, 0, none⟩ = some (.int .u16 b) := cell_on hb3 (cell_alloc a0_2)
  have a1_3 : w3.cell? ⟨w.heap.size, 1, none⟩ = some (.int .i64 n) := cell_on hb3 (cell_alloc a1_2)
  have d0_3 : w3.cell? ⟨w.heap.size + 1, 0, none⟩ = some (.int .u16 c) := cell_on hb3 (cell_alloc d0_2)
  have d1_3 : w3.cell? ⟨w.heap.size + 1, 1, none⟩ = some (.int .i64 m) := cell_on hb3 (cell_alloc d1_2)
  have k0_3 : w3.cell? ⟨w1.heap.size, 0, none⟩ = some (.int .u16 x) := cell_on hb3 (cell_alloc k0_2)
  have k1_3 : w3.cell? ⟨w1.heap.size, 1, none⟩ = some (.int .u16 z) := cell_on hb3 (cell_alloc k1_2)
  have l0_3 : w3.cell? ⟨w2.heap.size, 0, none⟩ = some (.int .u16 x2) := cell_on hb3 (show (w2.alloc (.cells #[.int .u16 x2, .int .u16 z2] 26)).cell? ⟨w2.heap.size, 0, none⟩ = some (.int .u16 x2) from by simp [go_sem])
  have l1_3 : w3.cell? ⟨w2.heap.size, 1, none⟩ = some (.int .u16 z2) := cell_on hb3 (show (w2.alloc (.cells #[.int .u16 x2, .int .u16 z2] 26)).cell? ⟨w2.heap.size, 1, none⟩ = some (.int .u16 z2) from by simp [go_sem])
  have hg3_0 : w.heap.size < w3.heap.size := by omega
  have hg3_1 : w.heap.size + 1 < w3.heap.size := by omega
  have hg3_2 : w1.heap.size < w3.heap.size := by omega
  have hg3_3 : w2.heap.size < w3.heap.size := by omega
  have hl3 : w.heap.size ≤ w3.heap.size := by omega
  have hw3 : Hid (Below w.heap.size w w3) := (hw2.out.alloc (by first | omega | (simp; done) | (simp; omega)) _).trans (hb3.mono (by first | omega | (simp; done) | (simp; omega)))
  clear hb3 a0_2 a1_2 d0_2 d1_2 k0_2 k1_2 hg2_0 hg2_1 hg2_2 hw2
  go_wp2_with (fail)
  refine (c4 _).mono ?_
  rintro e w4 ⟨rfl, hb4⟩
  have hz4 := hb4.size
  (try simp at hz4)
  have a0_4 : w4.cell? ⟨w.heap.size, 0, none⟩ = some (.int .u16 b) := cell_on hb4 (cell_alloc a0_3)
  have a1_4 : w4.cell? ⟨w.heap.size, 1, none⟩ = some (.int .i64 n) := cell_on hb4 (cell_alloc a1_3)
  have d0_4 : w4.cell? ⟨w.heap.size + 1, 0, none⟩ = some (.int .u16 c) := cell_on hb4 (cell_alloc d0_3)
  have d1_4 : w4.cell? ⟨w.heap.size + 1, 1, none⟩ = some (.int .i64 m) := cell_on hb4 (cell_alloc d1_3)
  have k0_4 : w4.cell? ⟨w1.heap.size, 0, none⟩ = some (.int .u16 x) := cell_on hb4 (cell_alloc k0_3)
  have k1_4 : w4.cell? ⟨w1.heap.size, 1, none⟩ = some (.int .u16 z) := cell_on hb4 (cell_alloc k1_3)
  have l0_4 : w4.cell? ⟨w2.heap.size, 0, none⟩ = some (.int .u16 x2) := cell_on hb4 (cell_alloc l0_3)
  have l1_4 : w4.cell? ⟨w2.heap.size, 1, none⟩ = some (.int .u16 z2) := cell_on hb4 (cell_alloc l1_3)
  have j0_4 : w4.cell? ⟨w3.heap.size, 0, none⟩ = some (.int .u16 (x2 : Nat)) := cell_on hb4 (show (w3.alloc (.cells #[.int .u16 (x2 : Nat), .int .u16 (z2 : Nat)] 26)).cell? ⟨w3.heap.size, 0, none⟩ = some (.int .u16 (x2 : Nat)) from by simp [go_sem])
  have j1_4 : w4.cell? ⟨w3.heap.size, 1, none⟩ = some (.int .u16 (z2 : Nat)) := cell_on hb4 (show (w3.alloc (.cells #[.int .u16 (x2 : Nat), .int .u16 (z2 : Nat)] 26)).cell? ⟨w3.heap.size, 1, none⟩ = some (.int .u16 (z2 : Nat)) from by simp [go_sem])
  have hg4_0 : w.heap.size < w4.heap.size := by omega
  have hg4_1 : w.heap.size + 1 < w4.heap.size := by omega
  have hg4_2 : w1.heap.size < w4.heap.size := by omega
  have hg4_3 : w2.heap.size < w4.heap.size := by omega
  have hg4_4 : w3.heap.size < w4.heap.size := by omega
  have hl4 : w.heap.size ≤ w4.heap.size := by omega
  have hw4 : Hid (Below w.heap.size w w4) := (hw3.out.alloc (by first | omega | (simp; done) | (simp; omega)) _).trans (hb4.mono (by first | omega | (simp; done) | (simp; omega)))
  clear hb4 a0_3 a1_3 d0_3 d1_3 k0_3 k1_3 l0_3 l1_3 hg3_0 hg3_1 hg3_2 hg3_3 hw3
  go_wp2_with (fail)
  refine (ca _).mono ?_
  rintro e w5 ⟨rfl, hb5⟩
  have hz5 := hb5.size
  (try simp at hz5)
  have a0_5 : w5.cell? ⟨w.heap.size, 0, none⟩ = some (.int .u16 b) := cell_on hb5 a0_4
  have a1_5 : w5.cell? ⟨w.heap.size, 1, none⟩ = some (.int .i64 n) := cell_on hb5 a1_4
  have d0_5 : w5.cell? ⟨w.heap.size + 1, 0, none⟩ = some (.int .u16 c) := cell_on hb5 d0_4
  have d1_5 : w5.cell? ⟨w.heap.size + 1, 1, none⟩ = some (.int .i64 m) := cell_on hb5 d1_4
  have k0_5 : w5.cell? ⟨w1.heap.size, 0, none⟩ = some (.int .u16 x) := cell_on hb5 k0_4
  have k1_5 : w5.cell? ⟨w1.heap.size, 1, none⟩ = some (.int .u16 z) := cell_on hb5 k1_4
  have l0_5 : w5.cell? ⟨w2.heap.size, 0, none⟩ = some (.int .u16 x2) := cell_on hb5 l0_4
  have l1_5 : w5.cell? ⟨w2.heap.size, 1, none⟩ = some (.int .u16 z2) := cell_on hb5 l1_4
  have j0_5 : w5.cell? ⟨w3.heap.size, 0, none⟩ = some (.int .u16 (x2 : Nat)) := cell_on hb5 j0_4
  have j1_5 : w5.cell? ⟨w3.heap.size, 1, none⟩ = some (.int .u16 (z2 : Nat)) := cell_on hb5 j1_4
  have hg5_0 : w.heap.size < w5.heap.size := by omega
  have hg5_1 : w.heap.size + 1 < w5.heap.size := by omega
  have hg5_2 : w1.heap.size < w5.heap.size := by omega
  have hg5_3 : w2.heap.size < w5.heap.size := by omega
  have hg5_4 : w3.heap.size < w5.heap.size := by omega
  have hl5 : w.heap.size ≤ w5.heap.size := by omega
  have hw5 : Hid (Below w.heap.size w w5) := hw4.out.trans (hb5.mono (by first | omega | (simp; done) | (simp; omega)))
  clear hb5 a0_4 a1_4 d0_4 d1_4 k0_4 k1_4 l0_4 l1_4 j0_4 j1_4 hg4_0 hg4_1 hg4_2 hg4_3 hg4_4 hw4
  go_wp2_with (fail)
  refine (c6 _).mono ?_
  rintro e w6 ⟨rfl, hb6⟩
  have hz6 := hb6.size
  (try simp at hz6)
  have a0_6 : w6.cell? ⟨w.heap.size, 0, none⟩ = some (.int .u16 b) := cell_on hb6 a0_5
  have a1_6 : w6.cell? ⟨w.heap.size, 1, none⟩ = some (.int .i64 n) := cell_on hb6 a1_5
  have d0_6 : w6.cell? ⟨w.heap.size + 1, 0, none⟩ = some (.int .u16 c) := cell_on hb6 d0_5
  have d1_6 : w6.cell? ⟨w.heap.size + 1, 1, none⟩ = some (.int .i64 m) := cell_on hb6 d1_5
  have k0_6 : w6.cell? ⟨w1.heap.size, 0, none⟩ = some (.int .u16 x) := cell_on hb6 k0_5
  have k1_6 : w6.cell? ⟨w1.heap.size, 1, none⟩ = some (.int .u16 z) := cell_on hb6 k1_5
  have l0_6 : w6.cell? ⟨w2.heap.size, 0, none⟩ = some (.int .u16 x2) := cell_on hb6 l0_5
  have l1_6 : w6.cell? ⟨w2.heap.size, 1, none⟩ = some (.int .u16 z2) := cell_on hb6 l1_5
  have j0_6 : w6.cell? ⟨w3.heap.size, 0, none⟩ = some (.int .u16 (x2 : Nat)) := cell_on hb6 j0_5
  have j1_6 : w6.cell? ⟨w3.heap.size, 1, none⟩ = some (.int .u16 (z2 : Nat)) := cell_on hb6 j1_5
  have hg6_0 : w.heap.size < w6.heap.size := by omega
  have hg6_1 : w.heap.size + 1 < w6.heap.size := by omega
  have hg6_2 : w1.heap.size < w6.heap.size := by omega
  have hg6_3 : w2.heap.size < w6.heap.size := by omega
  have hg6_4 : w3.heap.size < w6.heap.size := by omega
  have hl6 : w.heap.size ≤ w6.heap.size := by omega
  have hw6 : Hid (Below w.heap.size w w6) := hw5.out.trans (hb6.mono (by first | omega | (simp; done) | (simp; omega)))
  clear hb6 a0_5 a1_5 d0_5 d1_5 k0_5 k1_5 l0_5 l1_5 j0_5 j1_5 hg5_0 hg5_1 hg5_2 hg5_3 hg5_4 hw5
  go_wp2
  go_ret
  exact ⟨rfl, hw6.out⟩
set_option maxHeartbeats 4000000 in
theorem expandMeets_y10 (b : Nat) (n : Int) (c : Nat) (m : Int) (q x z x2 z2 : Nat) (hne : ¬ x2 = x)
    (c1 : ∀ W, Calls Try.prog 9 #[.agg #[.int .u16 b, .int .i64 n]] W fun e w' => e = .returned (.tuple #[.agg #[.int .u16 (x : Nat), .int .u16 (z : Nat)], .int .i64 0]) ∧ Below W.heap.size W w')
    (c2 : ∀ W, Calls Try.prog 9 #[.agg #[.int .u16 c, .int .i64 m]] W fun e w' => e = .returned (.tuple #[.agg #[.int .u16 (x2 : Nat), .int .u16 (z2 : Nat)], .int .i64 0]) ∧ Below W.heap.size W w')
    (c3 : ∀ W, Calls Try.prog 31 #[.agg #[.int .u16 (x : Nat), .int .u16 (z : Nat)], .agg #[.int .u16 (x2 : Nat), .int .u16 (z2 : Nat)]] W fun e w' => e = .returned (.tuple #[.agg #[.int .u16 (x2 : Nat), .int .u16 (z2 : Nat)], .bool true]) ∧ Below W.heap.size W w')
    (c4 : ∀ W, Calls Try.prog 14 #[.agg #[.int .u16 b, .int .i64 n], .int .u16 q] W fun e w' => e = .returned (.bool true) ∧ Below W.heap.size W w')
    (c5 : ∀ W, Calls Try.prog 14 #[.agg #[.int .u16 c, .int .i64 m], .int .u16 q] W fun e w' => e = .returned (.bool false) ∧ Below W.heap.size W w')
    (c6 : ∀ W, Calls Try.prog 30 #[.agg #[.int .u16 (x2 : Nat), .int .u16 (z2 : Nat)], .int .u16 q] W fun e w' => e = .returned (.bool false) ∧ Below W.heap.size W w')
    (ca : ∀ W, Calls Try.prog 11 #[] W fun e w' => e = .returned (.bool true) ∧ Below W.heap.size W w') (w : World) :
    Calls Try.prog 8 #[.agg #[.int .u16 b, .int .i64 n], .agg #[.int .u16 c, .int .i64 m], .int .u16 q] w fun e w' => e = .returned (.bool true) ∧ Below w.heap.size w w' := by
  have hne1 : ¬ ((x2 : Int) = (x : Int)) := by omega
  clear hne
  go_enter Try.func8, Try.ntmps8
  go_wp2_with (fail)
  refine (c1 _).mono ?_
  rintro e w1 ⟨rfl, hb1⟩
  have hz1 := hb1.size
  (try simp at hz1)
  have a0_1 : w1.cell? ⟨w.heap.size, 0, none⟩ = some (.int .u16 b) := cell_on hb1 (show ((w.alloc (.cells #[.int .u16 b, .int .i64 n] 24)).alloc (.cells #[.int .u16 c, .int .i64 m] 24)).cell? ⟨w.heap.size, 0, none⟩ = some (.int .u16 b) from by simp [go_sem])
  have a1_1 : w1.cell? ⟨w.heap.size, 1, none⟩ = some (.int .i64 n) := cell_on hb1 (show ((w.alloc (.cells #[.int .u16 b, .int .i64 n] 24)).alloc (.cells #[.int .u16 c, .int .i64 m] 24)).cell? ⟨w.heap.size, 1, none⟩ = some (.int .i64 n) from by simp [go_sem])
  have d0_1 : w1.cell? ⟨w.heap.size + 1, 0, none⟩ = some (.int .u16 c) := cell_on hb1 (show ((w.alloc (.cells #[.int .u16 b, .int .i64 n] 24)).alloc (.cells #[.int .u16 c, .int .i64 m] 24)).cell? ⟨w.heap.size + 1, 0, none⟩ = some (.int .u16 c) from by simp [go_sem])
  have d1_1 : w1.cell? ⟨w.heap.size + 1, 1, none⟩ = some (.int .i64 m) := cell_on hb1 (show ((w.alloc (.cells #[.int .u16 b, .int .i64 n] 24)).alloc (.cells #[.int .u16 c, .int .i64 m] 24)).cell? ⟨w.heap.size + 1, 1, none⟩ = some (.int .i64 m) from by simp [go_sem])
  have hg1_0 : w.heap.size < w1.heap.size := by omega
  have hg1_1 : w.heap.size + 1 < w1.heap.size := by omega
  have hl1 : w.heap.size ≤ w1.heap.size := by omega
  have hw1 : Hid (Below w.heap.size w w1) := (((Below.refl _ _).alloc (by first | omega | (simp; done) | (simp; omega)) _).alloc (by first | omega | (simp; done) | (simp; omega)) _).trans (hb1.mono (by first | omega | (simp; done) | (simp; omega)))
  clear hb1
  go_wp2_with (fail)
  refine (c2 _).mono ?_
  rintro e w2 ⟨rfl, hb2⟩
  have hz2 := hb2.size
  (try simp at hz2)
  have a0_2 : w2.cell? ⟨w.heap.size, 0, none⟩ = some (.int .u16 b) := cell_on hb2 (cell_alloc a0_1)
  have a1_2 : w2.cell? ⟨w.heap.size, 1, none⟩ = some (.int .i64 n) := cell_on hb2 (cell_alloc a1_1)
  have d0_2 : w2.cell? ⟨w.heap.size + 1, 0, none⟩ = some (.int .u16 c) := cell_on hb2 (cell_alloc d0_1)
  have d1_2 : w2.cell? ⟨w.heap.size + 1, 1, none⟩ = some (.int .i64 m) := cell_on hb2 (cell_alloc d1_1)
  have k0_2 : w2.cell? ⟨w1.heap.size, 0, none⟩ = some (.int .u16 x) := cell_on hb2 (show (w1.alloc (.cells #[.int .u16 x, .int .u16 z] 26)).cell? ⟨w1.heap.size, 0, none⟩ = some (.int .u16 x) from by simp [go_sem])
  have k1_2 : w2.cell? ⟨w1.heap.size, 1, none⟩ = some (.int .u16 z) := cell_on hb2 (show (w1.alloc (.cells #[.int .u16 x, .int .u16 z] 26)).cell? ⟨w1.heap.size, 1, none⟩ = some (.int .u16 z) from by simp [go_sem])
  have hg2_0 : w.heap.size < w2.heap.size := by omega
  have hg2_1 : w.heap.size + 1 < w2.heap.size := by omega
  have hg2_2 : w1.heap.size < w2.heap.size := by omega
  have hl2 : w.heap.size ≤ w2.heap.size := by omega
  have hw2 : Hid (Below w.heap.size w w2) := (hw1.out.alloc (by first | omega | (simp; done) | (simp; omega)) _).trans (hb2.mono (by first | omega | (simp; done) | (simp; omega)))
  clear hb2 a0_1 a1_1 d0_1 d1_1 hg1_0 hg1_1 hw1
  go_wp2_with (fail)
  refine (c3 _).mono ?_
  rintro e w3 ⟨rfl, hb3⟩
  have hz3 := hb3.size
  (try simp at hz3)
  have a0_3 : w3.cell? ⟨w.heap.size, 0, none⟩ = some (.int .u16 b) := cell_on hb3 (cell_alloc a0_2)
  have a1_3 : w3.cell? ⟨w.heap.size, 1, none⟩ = some (.int .i64 n) := cell_on hb3 (cell_alloc a1_2)
  have d0_3 : w3.cell? ⟨w.heap.size + 1, 0, none⟩ = some (.int .u16 c) := cell_on hb3 (cell_alloc d0_2)
  have d1_3 : w3.cell? ⟨w.heap.size + 1, 1, none⟩ = some (.int .i64 m) := cell_on hb3 (cell_alloc d1_2)
  have k0_3 : w3.cell? ⟨w1.heap.size, 0, none⟩ = some (.int .u16 x) := cell_on hb3 (cell_alloc k0_2)
  have k1_3 : w3.cell? ⟨w1.heap.size, 1, none⟩ = some (.int .u16 z) := cell_on hb3 (cell_alloc k1_2)
  have l0_3 : w3.cell? ⟨w2.heap.size, 0, none⟩ = some (.int .u16 x2) := cell_on hb3 (show (w2.alloc (.cells #[.int .u16 x2, .int .u16 z2] 26)).cell? ⟨w2.heap.size, 0, none⟩ = some (.int .u16 x2) from by simp [go_sem])
  have l1_3 : w3.cell? ⟨w2.heap.size, 1, none⟩ = some (.int .u16 z2) := cell_on hb3 (show (w2.alloc (.cells #[.int .u16 x2, .int .u16 z2] 26)).cell? ⟨w2.heap.size, 1, none⟩ = some (.int .u16 z2) from by simp [go_sem])
  have hg3_0 : w.heap.size < w3.heap.size := by omega
  have hg3_1 : w.heap.size + 1 < w3.heap.size := by omega
  have hg3_2 : w1.heap.size < w3.heap.size := by omega
  have hg3_3 : w2.heap.size < w3.heap.size := by omega
  have hl3 : w.heap.size ≤ w3.heap.size := by omega
  have hw3 : Hid (Below w.heap.size w w3) := (hw2.out.alloc (by first | omega | (simp; done) | (simp; omega)) _).trans (hb3.mono (by first | omega | (simp; done) | (simp; omega)))
  clear hb3 a0_2 a1_2 d0_2 d1_2 k0_2 k1_2 hg2_0 hg2_1 hg2_2 hw2
  go_wp2_with (fail)
  refine (c4 _).mono ?_
  rintro e w4 ⟨rfl, hb4⟩
  have hz4 := hb4.size
  (try simp at hz4)
  have a0_4 : w4.cell? ⟨w.heap.size, 0, none⟩ = some (.int .u16 b) := cell_on hb4 (cell_alloc a0_3)
  have a1_4 : w4.cell? ⟨w.heap.size, 1, none⟩ = some (.int .i64 n) := cell_on hb4 (cell_alloc a1_3)
  have d0_4 : w4.cell? ⟨w.heap.size + 1, 0, none⟩ = some (.int .u16 c) := cell_on hb4 (cell_alloc d0_3)
  have d1_4 : w4.cell? ⟨w.heap.size + 1, 1, none⟩ = some (.int .i64 m) := cell_on hb4 (cell_alloc d1_3)
  have k0_4 : w4.cell? ⟨w1.heap.size, 0, none⟩ = some (.int .u16 x) := cell_on hb4 (cell_alloc k0_3)
  have k1_4 : w4.cell? ⟨w1.heap.size, 1, none⟩ = some (.int .u16 z) := cell_on hb4 (cell_alloc k1_3)
  have l0_4 : w4.cell? ⟨w2.heap.size, 0, none⟩ = some (.int .u16 x2) := cell_on hb4 (cell_alloc l0_3)
  have l1_4 : w4.cell? ⟨w2.heap.size, 1, none⟩ = some (.int .u16 z2) := cell_on hb4 (cell_alloc l1_3)
  have j0_4 : w4.cell? ⟨w3.heap.size, 0, none⟩ = some (.int .u16 (x2 : Nat)) := cell_on hb4 (show (w3.alloc (.cells #[.int .u16 (x2 : Nat), .int .u16 (z2 : Nat)] 26)).cell? ⟨w3.heap.size, 0, none⟩ = some (.int .u16 (x2 : Nat)) from by simp [go_sem])
  have j1_4 : w4.cell? ⟨w3.heap.size, 1, none⟩ = some (.int .u16 (z2 : Nat)) := cell_on hb4 (show (w3.alloc (.cells #[.int .u16 (x2 : Nat), .int .u16 (z2 : Nat)] 26)).cell? ⟨w3.heap.size, 1, none⟩ = some (.int .u16 (z2 : Nat)) from by simp [go_sem])
  have hg4_0 : w.heap.size < w4.heap.size := by omega
  have hg4_1 : w.heap.size + 1 < w4.heap.size := by omega
  have hg4_2 : w1.heap.size < w4.heap.size := by omega
  have hg4_3 : w2.heap.size < w4.heap.size := by omega
  have hg4_4 : w3.heap.size < w4.heap.size := by omega
  have hl4 : w.heap.size ≤ w4.heap.size := by omega
  have hw4 : Hid (Below w.heap.size w w4) := (hw3.out.alloc (by first | omega | (simp; done) | (simp; omega)) _).trans (hb4.mono (by first | omega | (simp; done) | (simp; omega)))
  clear hb4 a0_3 a1_3 d0_3 d1_3 k0_3 k1_3 l0_3 l1_3 hg3_0 hg3_1 hg3_2 hg3_3 hw3
  go_wp2_with (fail)
  refine (c5 _).mono ?_
  rintro e w5 ⟨rfl, hb5⟩
  have hz5 := hb5.size
  (try simp at hz5)
  have a0_5 : w5.cell? ⟨w.heap.size, 0, none⟩ = some (.int .u16 b) := cell_on hb5 a0_4
  have a1_5 : w5.cell? ⟨w.heap.size, 1, none⟩ = some (.int .i64 n) := cell_on hb5 a1_4
  have d0_5 : w5.cell? ⟨w.heap.size + 1, 0, none⟩ = some (.int .u16 c) := cell_on hb5 d0_4
  have d1_5 : w5.cell? ⟨w.heap.size + 1, 1, none⟩ = some (.int .i64 m) := cell_on hb5 d1_4
  have k0_5 : w5.cell? ⟨w1.heap.size, 0, none⟩ = some (.int .u16 x) := cell_on hb5 k0_4
  have k1_5 : w5.cell? ⟨w1.heap.size, 1, none⟩ = some (.int .u16 z) := cell_on hb5 k1_4
  have l0_5 : w5.cell? ⟨w2.heap.size, 0, none⟩ = some (.int .u16 x2) := cell_on hb5 l0_4
  have l1_5 : w5.cell? ⟨w2.heap.size, 1, none⟩ = some (.int .u16 z2) := cell_on hb5 l1_4
  have j0_5 : w5.cell? ⟨w3.heap.size, 0, none⟩ = some (.int .u16 (x2 : Nat)) := cell_on hb5 j0_4
  have j1_5 : w5.cell? ⟨w3.heap.size, 1, none⟩ = some (.int .u16 (z2 : Nat)) := cell_on hb5 j1_4
  have hg5_0 : w.heap.size < w5.heap.size := by omega
  have hg5_1 : w.heap.size + 1 < w5.heap.size := by omega
  have hg5_2 : w1.heap.size < w5.heap.size := by omega
  have hg5_3 : w2.heap.size < w5.heap.size := by omega
  have hg5_4 : w3.heap.size < w5.heap.size := by omega
  have hl5 : w.heap.size ≤ w5.heap.size := by omega
  have hw5 : Hid (Below w.heap.size w w5) := hw4.out.trans (hb5.mono (by first | omega | (simp; done) | (simp; omega)))
  clear hb5 a0_4 a1_4 d0_4 d1_4 k0_4 k1_4 l0_4 l1_4 j0_4 j1_4 hg4_0 hg4_1 hg4_2 hg4_3 hg4_4 hw4
  go_wp2_with (fail)
  refine (ca _).mono ?_
  rintro e w6 ⟨rfl, hb6⟩
  have hz6 := hb6.size
  (try simp at hz6)
  have a0_6 : w6.cell? ⟨w.heap.size, 0, none⟩ = some (.int .u16 b) := cell_on hb6 a0_5
  have a1_6 : w6.cell? ⟨w.heap.size, 1, none⟩ = some (.int .i64 n) := cell_on hb6 a1_5
  have d0_6 : w6.cell? ⟨w.heap.size + 1, 0, none⟩ = some (.int .u16 c) := cell_on hb6 d0_5
  have d1_6 : w6.cell? ⟨w.heap.size + 1, 1, none⟩ = some (.int .i64 m) := cell_on hb6 d1_5
  have k0_6 : w6.cell? ⟨w1.heap.size, 0, none⟩ = some (.int .u16 x) := cell_on hb6 k0_5
  have k1_6 : w6.cell? ⟨w1.heap.size, 1, none⟩ = some (.int .u16 z) := cell_on hb6 k1_5
  have l0_6 : w6.cell? ⟨w2.heap.size, 0, none⟩ = some (.int .u16 x2) := cell_on hb6 l0_5
  have l1_6 : w6.cell? ⟨w2.heap.size, 1, none⟩ = some (.int .u16 z2) := cell_on hb6 l1_5
  have j0_6 : w6.cell? ⟨w3.heap.size, 0, none⟩ = some (.int .u16 (x2 : Nat)) := cell_on hb6 j0_5
  have j1_6 : w6.cell? ⟨w3.heap.size, 1, none⟩ = some (.int .u16 (z2 : Nat)) := cell_on hb6 j1_5
  have hg6_0 : w.heap.size < w6.heap.size := by omega
  have hg6_1 : w.heap.size + 1 < w6.heap.size := by omega
  have hg6_2 : w1.heap.size < w6.heap.size := by omega
  have hg6_3 : w2.heap.size < w6.heap.size := by omega
  have hg6_4 : w3.heap.size < w6.heap.size := by omega
  have hl6 : w.heap.size ≤ w6.heap.size := by omega
  have hw6 : Hid (Below w.heap.size w w6) := hw5.out.trans (hb6.mono (by first | omega | (simp; done) | (simp; omega)))
  clear hb6 a0_5 a1_5 d0_5 d1_5 k0_5 k1_5 l0_5 l1_5 j0_5 j1_5 hg5_0 hg5_1 hg5_2 hg5_3 hg5_4 hw5
  go_wp2_with (fail)
  refine (c6 _).mono ?_
  rintro e w7 ⟨rfl, hb7⟩
  have hz7 := hb7.size
  (try simp at hz7)
  have a0_7 : w7.cell? ⟨w.heap.size, 0, none⟩ = some (.int .u16 b) := cell_on hb7 a0_6
  have a1_7 : w7.cell? ⟨w.heap.size, 1, none⟩ = some (.int .i64 n) := cell_on hb7 a1_6
  have d0_7 : w7.cell? ⟨w.heap.size + 1, 0, none⟩ = some (.int .u16 c) := cell_on hb7 d0_6
  have d1_7 : w7.cell? ⟨w.heap.size + 1, 1, none⟩ = some (.int .i64 m) := cell_on hb7 d1_6
  have k0_7 : w7.cell? ⟨w1.heap.size, 0, none⟩ = some (.int .u16 x) := cell_on hb7 k0_6
  have k1_7 : w7.cell? ⟨w1.heap.size, 1, none⟩ = some (.int .u16 z) := cell_on hb7 k1_6
  have l0_7 : w7.cell? ⟨w2.heap.size, 0, none⟩ = some (.int .u16 x2) := cell_on hb7 l0_6
  have l1_7 : w7.cell? ⟨w2.heap.size, 1, none⟩ = some (.int .u16 z2) := cell_on hb7 l1_6
  have j0_7 : w7.cell? ⟨w3.heap.size, 0, none⟩ = some (.int .u16 (x2 : Nat)) := cell_on hb7 j0_6
  have j1_7 : w7.cell? ⟨w3.heap.size, 1, none⟩ = some (.int .u16 (z2 : Nat)) := cell_on hb7 j1_6
  have hg7_0 : w.heap.size < w7.heap.size := by omega
  have hg7_1 : w.heap.size + 1 < w7.heap.size := by omega
  have hg7_2 : w1.heap.size < w7.heap.size := by omega
  have hg7_3 : w2.heap.size < w7.heap.size := by omega
  have hg7_4 : w3.heap.size < w7.heap.size := by omega
  have hl7 : w.heap.size ≤ w7.heap.size := by omega
  have hw7 : Hid (Below w.heap.size w w7) := hw6.out.trans (hb7.mono (by first | omega | (simp; done) | (simp; omega)))
  clear hb7 a0_6 a1_6 d0_6 d1_6 k0_6 k1_6 l0_6 l1_6 j0_6 j1_6 hg6_0 hg6_1 hg6_2 hg6_3 hg6_4 hw6
  go_wp2
  go_ret
  exact ⟨rfl, hw7.out⟩
set_option maxHeartbeats 4000000 in
theorem expandMeets_y11 (b : Nat) (n : Int) (c : Nat) (m : Int) (q x z x2 z2 : Nat) (hne : ¬ x2 = x)
    (c1 : ∀ W, Calls Try.prog 9 #[.agg #[.int .u16 b, .int .i64 n]] W fun e w' => e = .returned (.tuple #[.agg #[.int .u16 (x : Nat), .int .u16 (z : Nat)], .int .i64 0]) ∧ Below W.heap.size W w')
    (c2 : ∀ W, Calls Try.prog 9 #[.agg #[.int .u16 c, .int .i64 m]] W fun e w' => e = .returned (.tuple #[.agg #[.int .u16 (x2 : Nat), .int .u16 (z2 : Nat)], .int .i64 0]) ∧ Below W.heap.size W w')
    (c3 : ∀ W, Calls Try.prog 31 #[.agg #[.int .u16 (x : Nat), .int .u16 (z : Nat)], .agg #[.int .u16 (x2 : Nat), .int .u16 (z2 : Nat)]] W fun e w' => e = .returned (.tuple #[.agg #[.int .u16 (x2 : Nat), .int .u16 (z2 : Nat)], .bool true]) ∧ Below W.heap.size W w')
    (c4 : ∀ W, Calls Try.prog 14 #[.agg #[.int .u16 b, .int .i64 n], .int .u16 q] W fun e w' => e = .returned (.bool true) ∧ Below W.heap.size W w')
    (c5 : ∀ W, Calls Try.prog 14 #[.agg #[.int .u16 c, .int .i64 m], .int .u16 q] W fun e w' => e = .returned (.bool true) ∧ Below W.heap.size W w')
    (c6 : ∀ W, Calls Try.prog 30 #[.agg #[.int .u16 (x2 : Nat), .int .u16 (z2 : Nat)], .int .u16 q] W fun e w' => e = .returned (.bool true) ∧ Below W.heap.size W w')
    (ca : ∀ W, Calls Try.prog 11 #[] W fun e w' => e = .returned (.bool true) ∧ Below W.heap.size W w') (w : World) :
    Calls Try.prog 8 #[.agg #[.int .u16 b, .int .i64 n], .agg #[.int .u16 c, .int .i64 m], .int .u16 q] w fun e w' => e = .returned (.bool true) ∧ Below w.heap.size w w' := by
  have hne1 : ¬ ((x2 : Int) = (x : Int)) := by omega
  clear hne
  go_enter Try.func8, Try.ntmps8
  go_wp2_with (fail)
  refine (c1 _).mono ?_
  rintro e w1 ⟨rfl, hb1⟩
  have hz1 := hb1.size
  (try simp at hz1)
  have a0_1 : w1.cell? ⟨w.heap.size, 0, none⟩ = some (.int .u16 b) := cell_on hb1 (show ((w.alloc (.cells #[.int .u16 b, .int .i64 n] 24)).alloc (.cells #[.int .u16 c, .int .i64 m] 24)).cell? ⟨w.heap.size, 0, none⟩ = some (.int .u16 b) from by simp [go_sem])
  have a1_1 : w1.cell? ⟨w.heap.size, 1, none⟩ = some (.int .i64 n) := cell_on hb1 (show ((w.alloc (.cells #[.int .u16 b, .int .i64 n] 24)).alloc (.cells #[.int .u16 c, .int .i64 m] 24)).cell? ⟨w.heap.size, 1, none⟩ = some (.int .i64 n) from by simp [go_sem])
  have d0_1 : w1.cell? ⟨w.heap.size + 1, 0, none⟩ = some (.int .u16 c) := cell_on hb1 (show ((w.alloc (.cells #[.int .u16 b, .int .i64 n] 24)).alloc (.cells #[.int .u16 c, .int .i64 m] 24)).cell? ⟨w.heap.size + 1, 0, none⟩ = some (.int .u16 c) from by simp [go_sem])
  have d1_1 : w1.cell? ⟨w.heap.size + 1, 1, none⟩ = some (.int .i64 m) := cell_on hb1 (show ((w.alloc (.cells #[.int .u16 b, .int .i64 n] 24)).alloc (.cells #[.int .u16 c, .int .i64 m] 24)).cell? ⟨w.heap.size + 1, 1, none⟩ = some (.int .i64 m) from by simp [go_sem])
  have hg1_0 : w.heap.size < w1.heap.size := by omega
  have hg1_1 : w.heap.size + 1 < w1.heap.size := by omega
  have hl1 : w.heap.size ≤ w1.heap.size := by omega
  have hw1 : Hid (Below w.heap.size w w1) := (((Below.refl _ _).alloc (by first | omega | (simp; done) | (simp; omega)) _).alloc (by first | omega | (simp; done) | (simp; omega)) _).trans (hb1.mono (by first | omega | (simp; done) | (simp; omega)))
  clear hb1
  go_wp2_with (fail)
  refine (c2 _).mono ?_
  rintro e w2 ⟨rfl, hb2⟩
  have hz2 := hb2.size
  (try simp at hz2)
  have a0_2 : w2.cell? ⟨w.heap.size, 0, none⟩ = some (.int .u16 b) := cell_on hb2 (cell_alloc a0_1)
  have a1_2 : w2.cell? ⟨w.heap.size, 1, none⟩ = some (.int .i64 n) := cell_on hb2 (cell_alloc a1_1)
  have d0_2 : w2.cell? ⟨w.heap.size + 1, 0, none⟩ = some (.int .u16 c) := cell_on hb2 (cell_alloc d0_1)
  have d1_2 : w2.cell? ⟨w.heap.size + 1, 1, none⟩ = some (.int .i64 m) := cell_on hb2 (cell_alloc d1_1)
  have k0_2 : w2.cell? ⟨w1.heap.size, 0, none⟩ = some (.int .u16 x) := cell_on hb2 (show (w1.alloc (.cells #[.int .u16 x, .int .u16 z] 26)).cell? ⟨w1.heap.size, 0, none⟩ = some (.int .u16 x) from by simp [go_sem])
  have k1_2 : w2.cell? ⟨w1.heap.size, 1, none⟩ = some (.int .u16 z) := cell_on hb2 (show (w1.alloc (.cells #[.int .u16 x, .int .u16 z] 26)).cell? ⟨w1.heap.size, 1, none⟩ = some (.int .u16 z) from by simp [go_sem])
  have hg2_0 : w.heap.size < w2.heap.size := by omega
  have hg2_1 : w.heap.size + 1 < w2.heap.size := by omega
  have hg2_2 : w1.heap.size < w2.heap.size := by omega
  have hl2 : w.heap.size ≤ w2.heap.size := by omega
  have hw2 : Hid (Below w.heap.size w w2) := (hw1.out.alloc (by first | omega | (simp; done) | (simp; omega)) _).trans (hb2.mono (by first | omega | (simp; done) | (simp; omega)))
  clear hb2 a0_1 a1_1 d0_1 d1_1 hg1_0 hg1_1 hw1
  go_wp2_with (fail)
  refine (c3 _).mono ?_
  rintro e w3 ⟨rfl, hb3⟩
  have hz3 := hb3.size
  (try simp at hz3)
  have a0_3 : w3.cell? ⟨w.heap.size, 0, none⟩ = some (.int .u16 b) := cell_on hb3 (cell_alloc a0_2)
  have a1_3 : w3.cell? ⟨w.heap.size, 1, none⟩ = some (.int .i64 n) := cell_on hb3 (cell_alloc a1_2)
  have d0_3 : w3.cell? ⟨w.heap.size + 1, 0, none⟩ = some (.int .u16 c) := cell_on hb3 (cell_alloc d0_2)
  have d1_3 : w3.cell? ⟨w.heap.size + 1, 1, none⟩ = some (.int .i64 m) := cell_on hb3 (cell_alloc d1_2)
  have k0_3 : w3.cell? ⟨w1.heap.size, 0, none⟩ = some (.int .u16 x) := cell_on hb3 (cell_alloc k0_2)
  have k1_3 : w3.cell? ⟨w1.heap.size, 1, none⟩ = some (.int .u16 z) := cell_on hb3 (cell_alloc k1_2)
  have l0_3 : w3.cell? ⟨w2.heap.size, 0, none⟩ = some (.int .u16 x2) := cell_on hb3 (show (w2.alloc (.cells #[.int .u16 x2, .int .u16 z2] 26)).cell? ⟨w2.heap.size, 0, none⟩ = some (.int .u16 x2) from by simp [go_sem])
  have l1_3 : w3.cell? ⟨w2.heap.size, 1, none⟩ = some (.int .u16 z2) := cell_on hb3 (show (w2.alloc (.cells #[.int .u16 x2, .int .u16 z2] 26)).cell? ⟨w2.heap.size, 1, none⟩ = some (.int .u16 z2) from by simp [go_sem])
  have hg3_0 : w.heap.size < w3.heap.size := by omega
  have hg3_1 : w.heap.size + 1 < w3.heap.size := by omega
  have hg3_2 : w1.heap.size < w3.heap.size := by omega
  have hg3_3 : w2.heap.size < w3.heap.size := by omega
  have hl3 : w.heap.size ≤ w3.heap.size := by omega
  have hw3 : Hid (Below w.heap.size w w3) := (hw2.out.alloc (by first | omega | (simp; done) | (simp; omega)) _).trans (hb3.mono (by first | omega | (simp; done) | (simp; omega)))
  clear hb3 a0_2 a1_2 d0_2 d1_2 k0_2 k1_2 hg2_0 hg2_1 hg2_2 hw2
  go_wp2_with (fail)
  refine (c4 _).mono ?_
  rintro e w4 ⟨rfl, hb4⟩
  have hz4 := hb4.size
  (try simp at hz4)
  have a0_4 : w4.cell? ⟨w.heap.size, 0, none⟩ = some (.int .u16 b) := cell_on hb4 (cell_alloc a0_3)
  have a1_4 : w4.cell? ⟨w.heap.size, 1, none⟩ = some (.int .i64 n) := cell_on hb4 (cell_alloc a1_3)
  have d0_4 : w4.cell? ⟨w.heap.size + 1, 0, none⟩ = some (.int .u16 c) := cell_on hb4 (cell_alloc d0_3)
  have d1_4 : w4.cell? ⟨w.heap.size + 1, 1, none⟩ = some (.int .i64 m) := cell_on hb4 (cell_alloc d1_3)
  have k0_4 : w4.cell? ⟨w1.heap.size, 0, none⟩ = some (.int .u16 x) := cell_on hb4 (cell_alloc k0_3)
  have k1_4 : w4.cell? ⟨w1.heap.size, 1, none⟩ = some (.int .u16 z) := cell_on hb4 (cell_alloc k1_3)
  have l0_4 : w4.cell? ⟨w2.heap.size, 0, none⟩ = some (.int .u16 x2) := cell_on hb4 (cell_alloc l0_3)
  have l1_4 : w4.cell? ⟨w2.heap.size, 1, none⟩ = some (.int .u16 z2) := cell_on hb4 (cell_alloc l1_3)
  have j0_4 : w4.cell? ⟨w3.heap.size, 0, none⟩ = some (.int .u16 (x2 : Nat)) := cell_on hb4 (show (w3.alloc (.cells #[.int .u16 (x2 : Nat), .int .u16 (z2 : Nat)] 26)).cell? ⟨w3.heap.size, 0, none⟩ = some (.int .u16 (x2 : Nat)) from by simp [go_sem])
  have j1_4 : w4.cell? ⟨w3.heap.size, 1, none⟩ = some (.int .u16 (z2 : Nat)) := cell_on hb4 (show (w3.alloc (.cells #[.int .u16 (x2 : Nat), .int .u16 (z2 : Nat)] 26)).cell? ⟨w3.heap.size, 1, none⟩ = some (.int .u16 (z2 : Nat)) from by simp [go_sem])
  have hg4_0 : w.heap.size < w4.heap.size := by omega
  have hg4_1 : w.heap.size + 1 < w4.heap.size := by omega
  have hg4_2 : w1.heap.size < w4.heap.size := by omega
  have hg4_3 : w2.heap.size < w4.heap.size := by omega
  have hg4_4 : w3.heap.size < w4.heap.size := by omega
  have hl4 : w.heap.size ≤ w4.heap.size := by omega
  have hw4 : Hid (Below w.heap.size w w4) := (hw3.out.alloc (by first | omega | (simp; done) | (simp; omega)) _).trans (hb4.mono (by first | omega | (simp; done) | (simp; omega)))
  clear hb4 a0_3 a1_3 d0_3 d1_3 k0_3 k1_3 l0_3 l1_3 hg3_0 hg3_1 hg3_2 hg3_3 hw3
  go_wp2_with (fail)
  refine (c5 _).mono ?_
  rintro e w5 ⟨rfl, hb5⟩
  have hz5 := hb5.size
  (try simp at hz5)
  have a0_5 : w5.cell? ⟨w.heap.size, 0, none⟩ = some (.int .u16 b) := cell_on hb5 a0_4
  have a1_5 : w5.cell? ⟨w.heap.size, 1, none⟩ = some (.int .i64 n) := cell_on hb5 a1_4
  have d0_5 : w5.cell? ⟨w.heap.size + 1, 0, none⟩ = some (.int .u16 c) := cell_on hb5 d0_4
  have d1_5 : w5.cell? ⟨w.heap.size + 1, 1, none⟩ = some (.int .i64 m) := cell_on hb5 d1_4
  have k0_5 : w5.cell? ⟨w1.heap.size, 0, none⟩ = some (.int .u16 x) := cell_on hb5 k0_4
  have k1_5 : w5.cell? ⟨w1.heap.size, 1, none⟩ = some (.int .u16 z) := cell_on hb5 k1_4
  have l0_5 : w5.cell? ⟨w2.heap.size, 0, none⟩ = some (.int .u16 x2) := cell_on hb5 l0_4
  have l1_5 : w5.cell? ⟨w2.heap.size, 1, none⟩ = some (.int .u16 z2) := cell_on hb5 l1_4
  have j0_5 : w5.cell? ⟨w3.heap.size, 0, none⟩ = some (.int .u16 (x2 : Nat)) := cell_on hb5 j0_4
  have j1_5 : w5.cell? ⟨w3.heap.size, 1, none⟩ = some (.int .u16 (z2 : Nat)) := cell_on hb5 j1_4
  have hg5_0 : w.heap.size < w5.heap.size := by omega
  have hg5_1 : w.heap.size + 1 < w5.heap.size := by omega
  have hg5_2 : w1.heap.size < w5.heap.size := by omega
  have hg5_3 : w2.heap.size < w5.heap.size := by omega
  have hg5_4 : w3.heap.size < w5.heap.size := by omega
  have hl5 : w.heap.size ≤ w5.heap.size := by omega
  have hw5 : Hid (Below w.heap.size w w5) := hw4.out.trans (hb5.mono (by first | omega | (simp; done) | (simp; omega)))
  clear hb5 a0_4 a1_4 d0_4 d1_4 k0_4 k1_4 l0_4 l1_4 j0_4 j1_4 hg4_0 hg4_1 hg4_2 hg4_3 hg4_4 hw4
  go_wp2_with (fail)
  refine (ca _).mono ?_
  rintro e w6 ⟨rfl, hb6⟩
  have hz6 := hb6.size
  (try simp at hz6)
  have a0_6 : w6.cell? ⟨w.heap.size, 0, none⟩ = some (.int .u16 b) := cell_on hb6 a0_5
  have a1_6 : w6.cell? ⟨w.heap.size, 1, none⟩ = some (.int .i64 n) := cell_on hb6 a1_5
  have d0_6 : w6.cell? ⟨w.heap.size + 1, 0, none⟩ = some (.int .u16 c) := cell_on hb6 d0_5
  have d1_6 : w6.cell? ⟨w.heap.size + 1, 1, none⟩ = some (.int .i64 m) := cell_on hb6 d1_5
  have k0_6 : w6.cell? ⟨w1.heap.size, 0, none⟩ = some (.int .u16 x) := cell_on hb6 k0_5
  have k1_6 : w6.cell? ⟨w1.heap.size, 1, none⟩ = some (.int .u16 z) := cell_on hb6 k1_5
  have l0_6 : w6.cell? ⟨w2.heap.size, 0, none⟩ = some (.int .u16 x2) := cell_on hb6 l0_5
  have l1_6 : w6.cell? ⟨w2.heap.size, 1, none⟩ = some (.int .u16 z2) := cell_on hb6 l1_5
  have j0_6 : w6.cell? ⟨w3.heap.size, 0, none⟩ = some (.int .u16 (x2 : Nat)) := cell_on hb6 j0_5
  have j1_6 : w6.cell? ⟨w3.heap.size, 1, none⟩ = some (.int .u16 (z2 : Nat)) := cell_on hb6 j1_5
  have hg6_0 : w.heap.size < w6.heap.size := by omega
  have hg6_1 : w.heap.size + 1 < w6.heap.size := by omega
  have hg6_2 : w1.heap.size < w6.heap.size := by omega
  have hg6_3 : w2.heap.size < w6.heap.size := by omega
  have hg6_4 : w3.heap.size < w6.heap.size := by omega
  have hl6 : w.heap.size ≤ w6.heap.size := by omega
  have hw6 : Hid (Below w.heap.size w w6) := hw5.out.trans (hb6.mono (by first | omega | (simp; done) | (simp; omega)))
  clear hb6 a0_5 a1_5 d0_5 d1_5 k0_5 k1_5 l0_5 l1_5 j0_5 j1_5 hg5_0 hg5_1 hg5_2 hg5_3 hg5_4 hw5
  go_wp2_with (fail)
  refine (c6 _).mono ?_
  rintro e w7 ⟨rfl, hb7⟩
  have hz7 := hb7.size
  (try simp at hz7)
  have a0_7 : w7.cell? ⟨w.heap.size, 0, none⟩ = some (.int .u16 b) := cell_on hb7 a0_6
  have a1_7 : w7.cell? ⟨w.heap.size, 1, none⟩ = some (.int .i64 n) := cell_on hb7 a1_6
  have d0_7 : w7.cell? ⟨w.heap.size + 1, 0, none⟩ = some (.int .u16 c) := cell_on hb7 d0_6
  have d1_7 : w7.cell? ⟨w.heap.size + 1, 1, none⟩ = some (.int .i64 m) := cell_on hb7 d1_6
  have k0_7 : w7.cell? ⟨w1.heap.size, 0, none⟩ = some (.int .u16 x) := cell_on hb7 k0_6
  have k1_7 : w7.cell? ⟨w1.heap.size, 1, none⟩ = some (.int .u16 z) := cell_on hb7 k1_6
  have l0_7 : w7.cell? ⟨w2.heap.size, 0, none⟩ = some (.int .u16 x2) := cell_on hb7 l0_6
  have l1_7 : w7.cell? ⟨w2.heap.size, 1, none⟩ = some (.int .u16 z2) := cell_on hb7 l1_6
  have j0_7 : w7.cell? ⟨w3.heap.size, 0, none⟩ = some (.int .u16 (x2 : Nat)) := cell_on hb7 j0_6
  have j1_7 : w7.cell? ⟨w3.heap.size, 1, none⟩ = some (.int .u16 (z2 : Nat)) := cell_on hb7 j1_6
  have hg7_0 : w.heap.size < w7.heap.size := by omega
  have hg7_1 : w.heap.size + 1 < w7.heap.size := by omega
  have hg7_2 : w1.heap.size < w7.heap.size := by omega
  have hg7_3 : w2.heap.size < w7.heap.size := by omega
  have hg7_4 : w3.heap.size < w7.heap.size := by omega
  have hl7 : w.heap.size ≤ w7.heap.size := by omega
  have hw7 : Hid (Below w.heap.size w w7) := hw6.out.trans (hb7.mono (by first | omega | (simp; done) | (simp; omega)))
  clear hb7 a0_6 a1_6 d0_6 d1_6 k0_6 k1_6 l0_6 l1_6 j0_6 j1_6 hg6_0 hg6_1 hg6_2 hg6_3 hg6_4 hw6
  go_wp2
  go_ret
  exact ⟨rfl, hw7.out⟩
set_option maxHeartbeats 4000000 in
theorem expandMeets_v0 (b : Nat) (n : Int) (c : Nat) (m : Int) (q x z z2 : Nat) (hne : ¬ z2 = z)
    (c1 : ∀ W, Calls Try.prog 9 #[.agg #[.int .u16 b, .int .i64 n]] W fun e w' => e = .returned (.tuple #[.agg #[.int .u16 (x : Nat), .int .u16 (z : Nat)], .int .i64 0]) ∧ Below W.heap.size W w')
    (c2 : ∀ W, Calls Try.prog 9 #[.agg #[.int .u16 c, .int .i64 m]] W fun e w' => e = .returned (.tuple #[.agg #[.int .u16 (x : Nat), .int .u16 (z2 : Nat)], .int .i64 0]) ∧ Below W.heap.size W w')
    (c3 : ∀ W, Calls Try.prog 31 #[.agg #[.int .u16 (x : Nat), .int .u16 (z : Nat)], .agg #[.int .u16 (x : Nat), .int .u16 (z2 : Nat)]] W fun e w' => e = .returned (.tuple #[.agg #[.int .u16 (x : Nat), .int .u16 (z2 : Nat)], .bool true]) ∧ Below W.heap.size W w')
    (c4 : ∀ W, Calls Try.prog 14 #[.agg #[.int .u16 b, .int .i64 n], .int .u16 q] W fun e w' => e = .returned (.bool false) ∧ Below W.heap.size W w')
    (c6 : ∀ W, Calls Try.prog 30 #[.agg #[.int .u16 (x : Nat), .int .u16 (z2 : Nat)], .int .u16 q] W fun e w' => e = .returned (.bool false) ∧ Below W.heap.size W w')
    (ca : ∀ W, Calls Try.prog 11 #[] W fun e w' => e = .returned (.bool true) ∧ Below W.heap.size W w') (w : World) :
    Calls Try.prog 8 #[.agg #[.int .u16 b, .int .i64 n], .agg #[.int .u16 c, .int .i64 m], .int .u16 q] w fun e w' => e = .returned (.bool true) ∧ Below w.heap.size w w' := by
  have hne1 : ¬ ((z2 : Int) = (z : Int)) := by omega
  clear hne
  go_enter Try.func8, Try.ntmps8
  go_wp2_with (fail)
  refine (c1 _).mono ?_
  rintro e w1 ⟨rfl, hb1⟩
  have hz1 := hb1.size
  (try simp at hz1)
  have a0_1 : w1.cell? ⟨w.heap.size, 0, none⟩ = some (.int .u16 b) := cell_on hb1 (show ((w.alloc (.cells #[.int .u16 b, .int .i64 n] 24)).alloc (.cells #[.int .u16 c, .int .i64 m] 24)).cell? ⟨w.heap.size, 0, none⟩ = some (.int .u16 b) from by simp [go_sem])
  have a1_1 : w1.cell? ⟨w.heap.size, 1, none⟩ = some (.int .i64 n) := cell_on hb1 (show ((w.alloc (.cells #[.int .u16 b, .int .i64 n] 24)).alloc (.cells #[.int .u16 c, .int .i64 m] 24)).cell? ⟨w.heap.size, 1, none⟩ = some (.int .i64 n) from by simp [go_sem])
  have d0_1 : w1.cell? ⟨w.heap.size + 1, 0, none⟩ = some (.int .u16 c) := cell_on hb1 (show ((w.alloc (.cells #[.int .u16 b, .int .i64 n] 24)).alloc (.cells #[.int .u16 c, .int .i64 m] 24)).cell? ⟨w.heap.size + 1, 0, none⟩ = some (.int .u16 c) from by simp [go_sem])
  have d1_1 : w1.cell? ⟨w.heap.size + 1, 1, none⟩ = some (.int .i64 m) := cell_on hb1 (show ((w.alloc (.cells #[.int .u16 b, .int .i64 n] 24)).alloc (.cells #[.int .u16 c, .int .i64 m] 24)).cell? ⟨w.heap.size + 1, 1, none⟩ = some (.int .i64 m) from by simp [go_sem])
  have hg1_0 : w.heap.size < w1.heap.size := by omega
  have hg1_1 : w.heap.size + 1 < w1.heap.size := by omega
  have hl1 : w.heap.size ≤ w1.heap.size := by omega
  have hw1 : Hid (Below w.heap.size w w1) := (((Below.refl _ _).alloc (by first | omega | (simp; done) | (simp; omega)) _).alloc (by first | omega | (simp; done) | (simp; omega)) _).trans (hb1.mono (by first | omega | (simp; done) | (simp; omega)))
  clear hb1
  go_wp2_with (fail)
  refine (c2 _).mono ?_
  rintro e w2 ⟨rfl, hb2⟩
  have hz2 := hb2.size
  (try simp at hz2)
  have a0_2 : w2.cell? ⟨w.heap.size, 0, none⟩ = some (.int .u16 b) := cell_on hb2 (cell_alloc a0_1)
  have a1_2 : w2.cell? ⟨w.heap.size, 1, none⟩ = some (.int .i64 n) := cell_on hb2 (cell_alloc a1_1)
  have d0_2 : w2.cell? ⟨w.heap.size + 1, 0, none⟩ = some (.int .u16 c) := cell_on hb2 (cell_alloc d0_1)
  have d1_2 : w2.cell? ⟨w.heap.size + 1, 1, none⟩ = some (.int .i64 m) := cell_on hb2 (cell_alloc d1_1)
  have k0_2 : w2.cell? ⟨w1.heap.size, 0, none⟩ = some (.int .u16 x) := cell_on hb2 (show (w1.alloc (.cells #[.int .u16 x, .int .u16 z] 26)).cell? ⟨w1.heap.size, 0, none⟩ = some (.int .u16 x) from by simp [go_sem])
  have k1_2 : w2.cell? ⟨w1.heap.size, 1, none⟩ = some (.int .u16 z) := cell_on hb2 (show (w1.alloc (.cells #[.int .u16 x, .int .u16 z] 26)).cell? ⟨w1.heap.size, 1, none⟩ = some (.int .u16 z) from by simp [go_sem])
  have hg2_0 : w.heap.size < w2.heap.size := by omega
  have hg2_1 : w.heap.size + 1 < w2.heap.size := by omega
  have hg2_2 : w1.heap.size < w2.heap.size := by omega
  have hl2 : w.heap.size ≤ w2.heap.size := by omega
  have hw2 : Hid (Below w.heap.size w w2) := (hw1.out.alloc (by first | omega | (simp; done) | (simp; omega)) _).trans (hb2.mono (by first | omega | (simp; done) | (simp; omega)))
  clear hb2 a0_1 a1_1 d0_1 d1_1 hg1_0 hg1_1 hw1
  go_wp2_with (fail)
  refine (c3 _).mono ?_
  rintro e w3 ⟨rfl, hb3⟩
  have hz3 := hb3.size
  (try simp at hz3)
  have a0_3 : w3.cell? ⟨w.heap.size, 0, none⟩ = some (.int .u16 b) := cell_on hb3 (cell_alloc a0_2)
  have a1_3 : w3.cell? ⟨w.heap.size, 1, none⟩ = some (.int .i64 n) := cell_on hb3 (cell_alloc a1_2)
  have d0_3 : w3.cell? ⟨w.heap.size + 1, 0, none⟩ = some (.int .u16 c) := cell_on hb3 (cell_alloc d0_2)
  have d1_3 : w3.cell? ⟨w.heap.size + 1, 1, none⟩ = some (.int .i64 m) := cell_on hb3 (cell_alloc d1_2)
  have k0_3 : w3.cell? ⟨w1.heap.size, 0, none⟩ = some (.int .u16 x) := cell_on hb3 (cell_alloc k0_2)
  have k1_3 : w3.cell? ⟨w1.heap.size, 1, none⟩ = some (.int .u16 z) := cell_on hb3 (cell_alloc k1_2)
  have l0_3 : w3.cell? ⟨w2.heap.size, 0, none⟩ = some (.int .u16 x) := cell_on hb3 (show (w2.alloc (.cells #[.int .u16 x, .int .u16 z2] 26)).cell? ⟨w2.heap.size, 0, none⟩ = some (.int .u16 x) from by simp [go_sem])
  have l1_3 : w3.cell? ⟨w2.heap.size, 1, none⟩ = some (.int .u16 z2) := cell_on hb3 (show (w2.alloc (.cells #[.int .u16 x, .int .u16 z2] 26)).cell? ⟨w2.heap.size, 1, none⟩ = some (.int .u16 z2) from by simp [go_sem])
  have hg3_0 : w.heap.size < w3.heap.size := by omega
  have hg3_1 : w.heap.size + 1 < w3.heap.size := by omega
  have hg3_2 : w1.heap.size < w3.heap.size := by omega
  have hg3_3 : w2.heap.size < w3.heap.size := by omega
  have hl3 : w.heap.size ≤ w3.heap.size := by omega
  have hw3 : Hid (Below w.heap.size w w3) := (hw2.out.alloc (by first | omega | (simp; done) | (simp; omega)) _).trans (hb3.mono (by first | omega | (simp; done) | (simp; omega)))
  clear hb3 a0_2 a1_2 d0_2 d1_2 k0_2 k1_2 hg2_0 hg2_1 hg2_2 hw2
  go_wp2_with (fail)
  refine (c4 _).mono ?_
  rintro e w4 ⟨rfl, hb4⟩
  have hz4 := hb4.size
  (try simp at hz4)
  have a0_4 : w4.cell? ⟨w.heap.size, 0, none⟩ = some (.int .u16 b) := cell_on hb4 (cell_alloc a0_3)
  have a1_4 : w4.cell? ⟨w.heap.size, 1, none⟩ = some (.int .i64 n) := cell_on hb4 (cell_alloc a1_3)
  have d0_4 : w4.cell? ⟨w.heap.size + 1, 0, none⟩ = some (.int .u16 c) := cell_on hb4 (cell_alloc d0_3)
  have d1_4 : w4.cell? ⟨w.heap.size + 1, 1, none⟩ = some (.int .i64 m) := cell_on hb4 (cell_alloc d1_3)
  have k0_4 : w4.cell? ⟨w1.heap.size, 0, none⟩ = some (.int .u16 x) := cell_on hb4 (cell_alloc k0_3)
  have k1_4 : w4.cell? ⟨w1.heap.size, 1, none⟩ = some (.int .u16 z) := cell_on hb4 (cell_alloc k1_3)
  have l0_4 : w4.cell? ⟨w2.heap.size, 0, none⟩ = some (.int .u16 x) := cell_on hb4 (cell_alloc l0_3)
  have l1_4 : w4.cell? ⟨w2.heap.size, 1, none⟩ = some (.int .u16 z2) := cell_on hb4 (cell_alloc l1_3)
  have j0_4 : w4.cell? ⟨w3.heap.size, 0, none⟩ = some (.int .u16 (x : Nat)) := cell_on hb4 (show (w3.alloc (.cells #[.int .u16 (x : Nat), .int .u16 (z2 : Nat)] 26)).cell? ⟨w3.heap.size, 0, none⟩ = some (.int .u16 (x : Nat)) from by simp [go_sem])
  have j1_4 : w4.cell? ⟨w3.heap.size, 1, none⟩ = some (.int .u16 (z2 : Nat)) := cell_on hb4 (show (w3.alloc (.cells #[.int .u16 (x : Nat), .int .u16 (z2 : Nat)] 26)).cell? ⟨w3.heap.size, 1, none⟩ = some (.int .u16 (z2 : Nat)) from by simp [go_sem])
  have hg4_0 : w.heap.size < w4.heap.size := by omega
  have hg4_1 : w.heap.size + 1 < w4.heap.size := by omega
  have hg4_2 : w1.heap.size < w4.heap.size := by omega
  have hg4_3 : w2.heap.size < w4.heap.size := by omega
  have hg4_4 : w3.heap.size < w4.heap.size := by omega
  have hl4 : w.heap.size ≤ w4.heap.size := by omega
  have hw4 : Hid (Below w.heap.size w w4) := (hw3.out.alloc (by first | omega | (simp; done) | (simp; omega)) _).trans (hb4.mono (by first | omega | (simp; done) | (simp; omega)))
  clear hb4 a0_3 a1_3 d0_3 d1_3 k0_3 k1_3 l0_3 l1_3 hg3_0 hg3_1 hg3_2 hg3_3 hw3
  go_wp2_with (fail)
  refine (ca _).mono ?_
  rintro e w5 ⟨rfl, hb5⟩
  have hz5 := hb5.size
  (try simp at hz5)
  have a0_5 : w5.cell? ⟨w.heap.size, 0, none⟩ = some (.int .u16 b) := cell_on hb5 a0_4
  have a1_5 : w5.cell? ⟨w.heap.size, 1, none⟩ = some (.int .i64 n) := cell_on hb5 a1_4
  have d0_5 : w5.cell? ⟨w.heap.size + 1, 0, none⟩ = some (.int .u16 c) := cell_on hb5 d0_4
  have d1_5 : w5.cell? ⟨w.heap.size + 1, 1, none⟩ = some (.int .i64 m) := cell_on hb5 d1_4
  have k0_5 : w5.cell? ⟨w1.heap.size, 0, none⟩ = some (.int .u16 x) := cell_on hb5 k0_4
  have k1_5 : w5.cell? ⟨w1.heap.size, 1, none⟩ = some (.int .u16 z) := cell_on hb5 k1_4
  have l0_5 : w5.cell? ⟨w2.heap.size, 0, none⟩ = some (.int .u16 x) := cell_on hb5 l0_4
  have l1_5 : w5.cell? ⟨w2.heap.size, 1, none⟩ = some (.int .u16 z2) := cell_on hb5 l1_4
  have j0_5 : w5.cell? ⟨w3.heap.size, 0, none⟩ = some (.int .u16 (x : Nat)) := cell_on hb5 j0_4
  have j1_5 : w5.cell? ⟨w3.heap.size, 1, none⟩ = some (.int .u16 (z2 : Nat)) := cell_on hb5 j1_4
  have hg5_0 : w.heap.size < w5.heap.size := by omega
  have hg5_1 : w.heap.size + 1 < w5.heap.size := by omega
  have hg5_2 : w1.heap.size < w5.heap.size := by omega
  have hg5_3 : w2.heap.size < w5.heap.size := by omega
  have hg5_4 : w3.heap.size < w5.heap.size := by omega
  have hl5 : w.heap.size ≤ w5.heap.size := by omega
  have hw5 : Hid (Below w.heap.size w w5) := hw4.out.trans (hb5.mono (by first | omega | (simp; done) | (simp; omega)))
  clear hb5 a0_4 a1_4 d0_4 d1_4 k0_4 k1_4 l0_4 l1_4 j0_4 j1_4 hg4_0 hg4_1 hg4_2 hg4_3 hg4_4 hw4
  go_wp2_with (fail)
  refine (c6 _).mono ?_
  rintro e w6 ⟨rfl, hb6⟩
  have hz6 := hb6.size
  (try simp at hz6)
  have a0_6 : w6.cell? ⟨w.heap.size, 0, none⟩ = some (.int .u16 b) := cell_on hb6 a0_5
  have a1_6 : w6.cell? ⟨w.heap.size, 1, none⟩ = some (.int .i64 n) := cell_on hb6 a1_5
  have d0_6 : w6.cell? ⟨w.heap.size + 1, 0, none⟩ = some (.int .u16 c) := cell_on hb6 d0_5
  have d1_6 : w6.cell? ⟨w.heap.size + 1, 1, none⟩ = some (.int .i64 m) := cell_on hb6 d1_5
  have k0_6 : w6.cell? ⟨w1.heap.size, 0, none⟩ = some (.int .u16 x) := cell_on hb6 k0_5
  have k1_6 : w6.cell? ⟨w1.heap.size, 1, none⟩ = some (.int .u16 z) := cell_on hb6 k1_5
  have l0_6 : w6.cell? ⟨w2.heap.size, 0, none⟩ = some (.int .u16 x) := cell_on hb6 l0_5
  have l1_6 : w6.cell? ⟨w2.heap.size, 1, none⟩ = some (.int .u16 z2) := cell_on hb6 l1_5
  have j0_6 : w6.cell? ⟨w3.heap.size, 0, none⟩ = some (.int .u16 (x : Nat)) := cell_on hb6 j0_5
  have j1_6 : w6.cell? ⟨w3.heap.size, 1, none⟩ = some (.int .u16 (z2 : Nat)) := cell_on hb6 j1_5
  have hg6_0 : w.heap.size < w6.heap.size := by omega
  have hg6_1 : w.heap.size + 1 < w6.heap.size := by omega
  have hg6_2 : w1.heap.size < w6.heap.size := by omega
  have hg6_3 : w2.heap.size < w6.heap.size := by omega
  have hg6_4 : w3.heap.size < w6.heap.size := by omega
  have hl6 : w.heap.size ≤ w6.heap.size := by omega
  have hw6 : Hid (Below w.heap.size w w6) := hw5.out.trans (hb6.mono (by first | omega | (simp; done) | (simp; omega)))
  clear hb6 a0_5 a1_5 d0_5 d1_5 k0_5 k1_5 l0_5 l1_5 j0_5 j1_5 hg5_0 hg5_1 hg5_2 hg5_3 hg5_4 hw5
  go_wp2
  go_ret
  exact ⟨rfl, hw6.out⟩
set_option maxHeartbeats 4000000 in
theorem expandMeets_v10 (b : Nat) (n : Int) (c : Nat) (m : Int) (q x z z2 : Nat) (hne : ¬ z2 = z)
    (c1 : ∀ W, Calls Try.prog 9 #[.agg #[.int .u16 b, .int .i64 n]] W fun e w' => e = .returned (.tuple #[.agg #[.int .u16 (x : Nat), .int .u16 (z : Nat)], .int .i64 0]) ∧ Below W.heap.size W w')
    (c2 : ∀ W, Calls Try.prog 9 #[.agg #[.int .u16 c, .int .i64 m]] W fun e w' => e = .returned (.tuple #[.agg #[.int .u16 (x : Nat), .int .u16 (z2 : Nat)], .int .i64 0]) ∧ Below W.heap.size W w')
    (c3 : ∀ W, Calls Try.prog 31 #[.agg #[.int .u16 (x : Nat), .int .u16 (z : Nat)], .agg #[.int .u16 (x : Nat), .int .u16 (z2 : Nat)]] W fun e w' => e = .returned (.tuple #[.agg #[.int .u16 (x : Nat), .int .u16 (z2 : Nat)], .bool true]) ∧ Below W.heap.size W w')
    (c4 : ∀ W, Calls Try.prog 14 #[.agg #[.int .u16 b, .int .i64 n], .int .u16 q] W fun e w' => e = .returned (.bool true) ∧ Below W.heap.size W w')
    (c5 : ∀ W, Calls Try.prog 14 #[.agg #[.int .u16 c, .int .i64 m], .int .u16 q] W fun e w' => e = .returned (.bool false) ∧ Below W.heap.size W w')
    (c6 : ∀ W, Calls Try.prog 30 #[.agg #[.int .u16 (x : Nat), .int .u16 (z2 : Nat)], .int .u16 q] W fun e w' => e = .returned (.bool false) ∧ Below W.heap.size W w')
    (ca : ∀ W, Calls Try.prog 11 #[] W fun e w' => e = .returned (.bool true) ∧ Below W.heap.size W w') (w : World) :
    Calls Try.prog 8 #[.agg #[.int .u16 b, .int .i64 n], .agg #[.int .u16 c, .int .i64 m], .int .u16 q] w fun e w' => e = .returned (.bool true) ∧ Below w.heap.size w w' := by
  have hne1 : ¬ ((z2 : Int) = (z : Int)) := by omega
  clear hne
  go_enter Try.func8, Try.ntmps8
  go_wp2_with (fail)
  refine (c1 _).mono ?_
  rintro e w1 ⟨rfl, hb1⟩
  have hz1 := hb1.size
  (try simp at hz1)
  have a0_1 : w1.cell? ⟨w.heap.size, 0, none⟩ = some (.int .u16 b) := cell_on hb1 (show ((w.alloc (.cells #[.int .u16 b, .int .i64 n] 24)).alloc (.cells #[.int .u16 c, .int .i64 m] 24)).cell? ⟨w.heap.size, 0, none⟩ = some (.int .u16 b) from by simp [go_sem])
  have a1_1 : w1.cell? ⟨w.heap.size, 1, none⟩ = some (.int .i64 n) := cell_on hb1 (show ((w.alloc (.cells #[.int .u16 b, .int .i64 n] 24)).alloc (.cells #[.int .u16 c, .int .i64 m] 24)).cell? ⟨w.heap.size, 1, none⟩ = some (.int .i64 n) from by simp [go_sem])
  have d0_1 : w1.cell? ⟨w.heap.size + 1, 0, none⟩ = some (.int .u16 c) := cell_on hb1 (show ((w.alloc (.cells #[.int .u16 b, .int .i64 n] 24)).alloc (.cells #[.int .u16 c, .int .i64 m] 24)).cell? ⟨w.heap.size + 1, 0, none⟩ = some (.int .u16 c) from by simp [go_sem])
  have d1_1 : w1.cell? ⟨w.heap.size + 1, 1, none⟩ = some (.int .i64 m) := cell_on hb1 (show ((w.alloc (.cells #[.int .u16 b, .int .i64 n] 24)).alloc (.cells #[.int .u16 c, .int .i64 m] 24)).cell? ⟨w.heap.size + 1, 1, none⟩ = some (.int .i64 m) from by simp [go_sem])
  have hg1_0 : w.heap.size < w1.heap.size := by omega
  have hg1_1 : w.heap.size + 1 < w1.heap.size := by omega
  have hl1 : w.heap.size ≤ w1.heap.size := by omega
  have hw1 : Hid (Below w.heap.size w w1) := (((Below.refl _ _).alloc (by first | omega | (simp; done) | (simp; omega)) _).alloc (by first | omega | (simp; done) | (simp; omega)) _).trans (hb1.mono (by first | omega | (simp; done) | (simp; omega)))
  clear hb1
  go_wp2_with (fail)
  refine (c2 _).mono ?_
  rintro e w2 ⟨rfl, hb2⟩
  have hz2 := hb2.size
  (try simp at hz2)
  have a0_2 : w2.cell? ⟨w.heap.size, 0, none⟩ = some (.int .u16 b) := cell_on hb2 (cell_alloc a0_1)
  have a1_2 : w2.cell? ⟨w.heap.size, 1, none⟩ = some (.int .i64 n) := cell_on hb2 (cell_alloc a1_1)
  have d0_2 : w2.cell? ⟨w.heap.size + 1, 0, none⟩ = some (.int .u16 c) := cell_on hb2 (cell_alloc d0_1)
  have d1_2 : w2.cell? ⟨w.heap.size + 1, 1, none⟩ = some (.int .i64 m) := cell_on hb2 (cell_alloc d1_1)
  have k0_2 : w2.cell? ⟨w1.heap.size, 0, none⟩ = some (.int .u16 x) := cell_on hb2 (show (w1.alloc (.cells #[.int .u16 x, .int .u16 z] 26)).cell? ⟨w1.heap.size, 0, none⟩ = some (.int .u16 x) from by simp [go_sem])
  have k1_2 : w2.cell? ⟨w1.heap.size, 1, none⟩ = some (.int .u16 z) := cell_on hb2 (show (w1.alloc (.cells #[.int .u16 x, .int .u16 z] 26)).cell? ⟨w1.heap.size, 1, none⟩ = some (.int .u16 z) from by simp [go_sem])
  have hg2_0 : w.heap.size < w2.heap.size := by omega
  have hg2_1 : w.heap.size + 1 < w2.heap.size := by omega
  have hg2_2 : w1.heap.size < w2.heap.size := by omega
  have hl2 : w.heap.size ≤ w2.heap.size := by omega
  have hw2 : Hid (Below w.heap.size w w2) := (hw1.out.alloc (by first | omega | (simp; done) | (simp; omega)) _).trans (hb2.mono (by first | omega | (simp; done) | (simp; omega)))
  clear hb2 a0_1 a1_1 d0_1 d1_1 hg1_0 hg1_1 hw1
  go_wp2_with (fail)
  refine (c3 _).mono ?_
  rintro e w3 ⟨rfl, hb3⟩
  have hz3 := hb3.size
  (try simp at hz3)
  have a0_3 : w3.cell? ⟨w.heap.size, 0, none⟩ = some (.int .u16 b) := cell_on hb3 (cell_alloc a0_2)
  have a1_3 : w3.cell? ⟨w.heap.size, 1, none⟩ = some (.int .i64 n) := cell_on hb3 (cell_alloc a1_2)
  have d0_3 : w3.cell? ⟨w.heap.size + 1, 0, none⟩ = some (.int .u16 c) := cell_on hb3 (cell_alloc d0_2)
  have d1_3 : w3.cell? ⟨w.heap.size + 1, 1, none⟩ = some (.int .i64 m) := cell_on hb3 (cell_alloc d1_2)
  have k0_3 : w3.cell? ⟨w1.heap.size, 0, none⟩ = some (.int .u16 x) := cell_on hb3 (cell_alloc k0_2)
  have k1_3 : w3.cell? ⟨w1.heap.size, 1, none⟩ = some (.int .u16 z) := cell_on hb3 (cell_alloc k1_2)
  have l0_3 : w3.cell? ⟨w2.heap.size, 0, none⟩ = some (.int .u16 x) := cell_on hb3 (show (w2.alloc (.cells #[.int .u16 x, .int .u16 z2] 26)).cell? ⟨w2.heap.size, 0, none⟩ = some (.int .u16 x) from by simp [go_sem])
  have l1_3 : w3.cell? ⟨w2.heap.size, 1, none⟩ = some (.int .u16 z2) := cell_on hb3 (show (w2.alloc (.cells #[.int .u16 x, .int .u16 z2] 26)).cell? ⟨w2.heap.size, 1, none⟩ = some (.int .u16 z2) from by simp [go_sem])
  have hg3_0 : w.heap.size < w3.heap.size := by omega
  have hg3_1 : w.heap.size + 1 < w3.heap.size := by omega
  have hg3_2 : w1.heap.size < w3.heap.size := by omega
  have hg3_3 : w2.heap.size < w3.heap.size := by omega
  have hl3 : w.heap.size ≤ w3.heap.size := by omega
  have hw3 : Hid (Below w.heap.size w w3) := (hw2.out.alloc (by first | omega | (simp; done) | (simp; omega)) _).trans (hb3.mono (by first | omega | (simp; done) | (simp; omega)))
  clear hb3 a0_2 a1_2 d0_2 d1_2 k0_2 k1_2 hg2_0 hg2_1 hg2_2 hw2
  go_wp2_with (fail)
  refine (c4 _).mono ?_
  rintro e w4 ⟨rfl, hb4⟩
  have hz4 := hb4.size
  (try simp at hz4)
  have a0_4 : w4.cell? ⟨w.heap.size, 0, none⟩ = some (.int .u16 b) := cell_on hb4 (cell_alloc a0_3)
  have a1_4 : w4.cell? ⟨w.heap.size, 1, none⟩ = some (.int .i64 n) := cell_on hb4 (cell_alloc a1_3)
  have d0_4 : w4.cell? ⟨w.heap.size + 1, 0, none⟩ = some (.int .u16 c) := cell_on hb4 (cell_alloc d0_3)
  have d1_4 : w4.cell? ⟨w.heap.size + 1, 1, none⟩ = some (.int .i64 m) := cell_on hb4 (cell_alloc d1_3)
  have k0_4 : w4.cell? ⟨w1.heap.size, 0, none⟩ = some (.int .u16 x) := cell_on hb4 (cell_alloc k0_3)
  have k1_4 : w4.cell? ⟨w1.heap.size, 1, none⟩ = some (.int .u16 z) := cell_on hb4 (cell_alloc k1_3)
  have l0_4 : w4.cell? ⟨w2.heap.size, 0, none⟩ = some (.int .u16 x) := cell_on hb4 (cell_alloc l0_3)
  have l1_4 : w4.cell? ⟨w2.heap.size, 1, none⟩ = some (.int .u16 z2) := cell_on hb4 (cell_alloc l1_3)
  have j0_4 : w4.cell? ⟨w3.heap.size, 0, none⟩ = some (.int .u16 (x : Nat)) := cell_on hb4 (show (w3.alloc (.cells #[.int .u16 (x : Nat), .int .u16 (z2 : Nat)] 26)).cell? ⟨w3.heap.size, 0, none⟩ = some (.int .u16 (x : Nat)) from by simp [go_sem])
  have j1_4 : w4.cell? ⟨w3.heap.size, 1, none⟩ = some (.int .u16 (z2 : Nat)) := cell_on hb4 (show (w3.alloc (.cells #[.int .u16 (x : Nat), .int .u16 (z2 : Nat)] 26)).cell? ⟨w3.heap.size, 1, none⟩ = some (.int .u16 (z2 : Nat)) from by simp [go_sem])
  have hg4_0 : w.heap.size < w4.heap.size := by omega
  have hg4_1 : w.heap.size + 1 < w4.heap.size := by omega
  have hg4_2 : w1.heap.size < w4.heap.size := by omega
  have hg4_3 : w2.heap.size < w4.heap.size := by omega
  have hg4_4 : w3.heap.size < w4.heap.size := by omega
  have hl4 : w.heap.size ≤ w4.heap.size := by omega
  have hw4 : Hid (Below w.heap.size w w4) := (hw3.out.alloc (by first | omega | (simp; done) | (simp; omega)) _).trans (hb4.mono (by first | omega | (simp; done) | (simp; omega)))
  clear hb4 a0_3 a1_3 d0_3 d1_3 k0_3 k1_3 l0_3 l1_3 hg3_0 hg3_1 hg3_2 hg3_3 hw3
  go_wp2_with (fail)
  refine (c5 _).mono ?_
  rintro e w5 ⟨rfl, hb5⟩
  have hz5 := hb5.size
  (try simp at hz5)
  have a0_5 : w5.cell? ⟨w.heap.size, 0, none⟩ = some (.int .u16 b) := cell_on hb5 a0_4
  have a1_5 : w5.cell? ⟨w.heap.size, 1, none⟩ = some (.int .i64 n) := cell_on hb5 a1_4
  have d0_5 : w5.cell? ⟨w.heap.size + 1, 0, none⟩ = some (.int .u16 c) := cell_on hb5 d0_4
  have d1_5 : w5.cell? ⟨w.heap.size + 1, 1, none⟩ = some (.int .i64 m) := cell_on hb5 d1_4
  have k0_5 : w5.cell? ⟨w1.heap.size, 0, none⟩ = some (.int .u16 x) := cell_on hb5 k0_4
  have k1_5 : w5.cell? ⟨w1.heap.size, 1, none⟩ = some (.int .u16 z) := cell_on hb5 k1_4
  have l0_5 : w5.cell? ⟨w2.heap.size, 0, none⟩ = some (.int .u16 x) := cell_on hb5 l0_4
  have l1_5 : w5.cell? ⟨w2.heap.size, 1, none⟩ = some (.int .u16 z2) := cell_on hb5 l1_4
  have j0_5 : w5.cell? ⟨w3.heap.size, 0, none⟩ = some (.int .u16 (x : Nat)) := cell_on hb5 j0_4
  have j1_5 : w5.cell? ⟨w3.heap.size, 1, none⟩ = some (.int .u16 (z2 : Nat)) := cell_on hb5 j1_4
  have hg5_0 : w.heap.size < w5.heap.size := by omega
  have hg5_1 : w.heap.size + 1 < w5.heap.size := by omega
  have hg5_2 : w1.heap.size < w5.heap.size := by omega
  have hg5_3 : w2.heap.size < w5.heap.size := by omega
  have hg5_4 : w3.heap.size < w5.heap.size := by omega
  have hl5 : w.heap.size ≤ w5.heap.size := by omega
  have hw5 : Hid (Below w.heap.size w w5) := hw4.out.trans (hb5.mono (by first | omega | (simp; done) | (simp; omega)))
  clear hb5 a0_4 a1_4 d0_4 d1_4 k0_4 k1_4 l0_4 l1_4 j0_4 j1_4 hg4_0 hg4_1 hg4_2 hg4_3 hg4_4 hw4
  go_wp2_with (fail)
  refine (ca _).mono ?_
  rintro e w6 ⟨rfl, hb6⟩
  have hz6 := hb6.size
  (try simp at hz6)
  have a0_6 : w6.cell? ⟨w.heap.size, 0, none⟩ = some (.int .u16 b) := cell_on hb6 a0_5
  have a1_6 : w6.cell? ⟨w.heap.size, 1, none⟩ = some (.int .i64 n) := cell_on hb6 a1_5
  have d0_6 : w6.cell? ⟨w.heap.size + 1, 0, none⟩ = some (.int .u16 c) := cell_on hb6 d0_5
  have d1_6 : w6.cell? ⟨w.heap.size + 1, 1, none⟩ = some (.int .i64 m) := cell_on hb6 d1_5
  have k0_6 : w6.cell? ⟨w1.heap.size, 0, none⟩ = some (.int .u16 x) := cell_on hb6 k0_5
  have k1_6 : w6.cell? ⟨w1.heap.size, 1, none⟩ = some (.int .u16 z) := cell_on hb6 k1_5
  have l0_6 : w6.cell? ⟨w2.heap.size, 0, none⟩ = some (.int .u16 x) := cell_on hb6 l0_5
  have l1_6 : w6.cell? ⟨w2.heap.size, 1, none⟩ = some (.int .u16 z2) := cell_on hb6 l1_5
  have j0_6 : w6.cell? ⟨w3.heap.size, 0, none⟩ = some (.int .u16 (x : Nat)) := cell_on hb6 j0_5
  have j1_6 : w6.cell? ⟨w3.heap.size, 1, none⟩ = some (.int .u16 (z2 : Nat)) := cell_on hb6 j1_5
  have hg6_0 : w.heap.size < w6.heap.size := by omega
  have hg6_1 : w.heap.size + 1 < w6.heap.size := by omega
  have hg6_2 : w1.heap.size < w6.heap.size := by omega
  have hg6_3 : w2.heap.size < w6.heap.size := by omega
  have hg6_4 : w3.heap.size < w6.heap.size := by omega
  have hl6 : w.heap.size ≤ w6.heap.size := by omega
  have hw6 : Hid (Below w.heap.size w w6) := hw5.out.trans (hb6.mono (by first | omega | (simp; done) | (simp; omega)))
  clear hb6 a0_5 a1_5 d0_5 d1_5 k0_5 k1_5 l0_5 l1_5 j0_5 j1_5 hg5_0 hg5_1 hg5_2 hg5_3 hg5_4 hw5
  go_wp2_with (fail)
  refine (c6 _).mono ?_
  rintro e w7 ⟨rfl, hb7⟩
  have hz7 := hb7.size
  (try simp at hz7)
  have a0_7 : w7.cell? ⟨w.heap.size, 0, none⟩ = some (.int .u16 b) := cell_on hb7 a0_6
  have a1_7 : w7.cell? ⟨w.heap.size, 1, none⟩ = some (.int .i64 n) := cell_on hb7 a1_6
  have d0_7 : w7.cell? ⟨w.heap.size + 1, 0, none⟩ = some (.int .u16 c) := cell_on hb7 d0_6
  have d1_7 : w7.cell? ⟨w.heap.size + 1, 1, none⟩ = some (.int .i64 m) := cell_on hb7 d1_6
  have k0_7 : w7.cell? ⟨w1.heap.size, 0, none⟩ = some (.int .u16 x) := cell_on hb7 k0_6
  have k1_7 : w7.cell? ⟨w1.heap.size, 1, none⟩ = some (.int .u16 z) := cell_on hb7 k1_6
  have l0_7 : w7.cell? ⟨w2.heap.size, 0, none⟩ = some (.int .u16 x) := cell_on hb7 l0_6
  have l1_7 : w7.cell? ⟨w2.heap.size, 1, none⟩ = some (.int .u16 z2) := cell_on hb7 l1_6
  have j0_7 : w7.cell? ⟨w3.heap.size, 0, none⟩ = some (.int .u16 (x : Nat)) := cell_on hb7 j0_6
  have j1_7 : w7.cell? ⟨w3.heap.size, 1, none⟩ = some (.int .u16 (z2 : Nat)) := cell_on hb7 j1_6
  have hg7_0 : w.heap.size < w7.heap.size := by omega
  have hg7_1 : w.heap.size + 1 < w7.heap.size := by omega
  have hg7_2 : w1.heap.size < w7.heap.size := by omega
  have hg7_3 : w2.heap.size < w7.heap.size := by omega
  have hg7_4 : w3.heap.size < w7.heap.size := by omega
  have hl7 : w.heap.size ≤ w7.heap.size := by omega
  have hw7 : Hid (Below w.heap.size w w7) := hw6.out.trans (hb7.mono (by first | omega | (simp; done) | (simp; omega)))
  clear hb7 a0_6 a1_6 d0_6 d1_6 k0_6 k1_6 l0_6 l1_6 j0_6 j1_6 hg6_0 hg6_1 hg6_2 hg6_3 hg6_4 hw6
  go_wp2
  go_ret
  exact ⟨rfl, hw7.out⟩
set_option maxHeartbeats 4000000 in
theorem expandMeets_v11 (b : Nat) (n : Int) (c : Nat) (m : Int) (q x z z2 : Nat) (hne : ¬ z2 = z)
    (c1 : ∀ W, Calls Try.prog 9 #[.agg #[.int .u16 b, .int .i64 n]] W fun e w' => e = .returned (.tuple #[.agg #[.int .u16 (x : Nat), .int .u16 (z : Nat)], .int .i64 0]) ∧ Below W.heap.size W w')
    (c2 : ∀ W, Calls Try.prog 9 #[.agg #[.int .u16 c, .int .i64 m]] W fun e w' => e = .returned (.tuple #[.agg #[.int .u16 (x : Nat), .int .u16 (z2 : Nat)], .int .i64 0]) ∧ Below W.heap.size W w')
    (c3 : ∀ W, Calls Try.prog 31 #[.agg #[.int .u16 (x : Nat), .int .u16 (z : Nat)], .agg #[.int .u16 (x : Nat), .int .u16 (z2 : Nat)]] W fun e w' => e = .returned (.tuple #[.agg #[.int .u16 (x : Nat), .int .u16 (z2 : Nat)], .bool true]) ∧ Below W.heap.size W w')
    (c4 : ∀ W, Calls Try.prog 14 #[.agg #[.int .u16 b, .int .i64 n], .int .u16 q] W fun e w' => e = .returned (.bool true) ∧ Below W.heap.size W w')
    (c5 : ∀ W, Calls Try.prog 14 #[.agg #[.int .u16 c, .int .i64 m], .int .u16 q] W fun e w' => e = .returned (.bool true) ∧ Below W.heap.size W w')
    (c6 : ∀ W, Calls Try.prog 30 #[.agg #[.int .u16 (x : Nat), .int .u16 (z2 : Nat)], .int .u16 q] W fun e w' => e = .returned (.bool true) ∧ Below W.heap.size W w')
    (ca : ∀ W, Calls Try.prog 11 #[] W fun e w' => e = .returned (.bool true) ∧ Below W.heap.size W w') (w : World) :
    Calls Try.prog 8 #[.agg #[.int .u16 b, .int .i64 n], .agg #[.int .u16 c, .int .i64 m], .int .u16 q] w fun e w' => e = .returned (.bool true) ∧ Below w.heap.size w w' := by
  have hne1 : ¬ ((z2 : Int) = (z : Int)) := by omega
  clear hne
  go_enter Try.func8, Try.ntmps8
  go_wp2_with (fail)
  refine (c1 _).mono ?_
  rintro e w1 ⟨rfl, hb1⟩
  have hz1 := hb1.size
  (try simp at hz1)
  have a0_1 : w1.cell? ⟨w.heap.size, 0, none⟩ = some (.int .u16 b) := cell_on hb1 (show ((w.alloc (.cells #[.int .u16 b, .int .i64 n] 24)).alloc (.cells #[.int .u16 c, .int .i64 m] 24)).cell? ⟨w.heap.size, 0, none⟩ = some (.int .u16 b) from by simp [go_sem])
  have a1_1 : w1.cell? ⟨w.heap.size, 1, none⟩ = some (.int .i64 n) := cell_on hb1 (show ((w.alloc (.cells #[.int .u16 b, .int .i64 n] 24)).alloc (.cells #[.int .u16 c, .int .i64 m] 24)).cell? ⟨w.heap.size, 1, none⟩ = some (.int .i64 n) from by simp [go_sem])
  have d0_1 : w1.cell? ⟨w.heap.size + 1, 0, none⟩ = some (.int .u16 c) := cell_on hb1 (show ((w.alloc (.cells #[.int .u16 b, .int .i64 n] 24)).alloc (.cells #[.int .u16 c, .int .i64 m] 24)).cell? ⟨w.heap.size + 1, 0, none⟩ = some (.int .u16 c) from by simp [go_sem])
  have d1_1 : w1.cell? ⟨w.heap.size + 1, 1, none⟩ = some (.int .i64 m) := cell_on hb1 (show ((w.alloc (.cells #[.int .u16 b, .int .i64 n] 24)).alloc (.cells #[.int .u16 c, .int .i64 m] 24)).cell? ⟨w.heap.size + 1, 1, none⟩ = some (.int .i64 m) from by simp [go_sem])
  have hg1_0 : w.heap.size < w1.heap.size := by omega
  have hg1_1 : w.heap.size + 1 < w1.heap.size := by omega
  have hl1 : w.heap.size ≤ w1.heap.size := by omega
  have hw1 : Hid (Below w.heap.size w w1) := (((Below.refl _ _).alloc (by first | omega | (simp; done) | (simp; omega)) _).alloc (by first | omega | (simp; done) | (simp; omega)) _).trans (hb1.mono (by first | omega | (simp; done) | (simp; omega)))
  clear hb1
  go_wp2_with (fail)
  refine (c2 _).mono ?_
  rintro e w2 ⟨rfl, hb2⟩
  have hz2 := hb2.size
  (try simp at hz2)
  have a0_2 : w2.cell? ⟨w.heap.size, 0, none⟩ = some (.int .u16 b) := cell_on hb2 (cell_alloc a0_1)
  have a1_2 : w2.cell? ⟨w.heap.size, 1, none⟩ = some (.int .i64 n) := cell_on hb2 (cell_alloc a1_1)
  have d0_2 : w2.cell? ⟨w.heap.size + 1, 0, none⟩ = some (.int .u16 c) := cell_on hb2 (cell_alloc d0_1)
  have d1_2 : w2.cell? ⟨w.heap.size + 1, 1, none⟩ = some (.int .i64 m) := cell_on hb2 (cell_alloc d1_1)
  have k0_2 : w2.cell? ⟨w1.heap.size, 0, none⟩ = some (.int .u16 x) := cell_on hb2 (show (w1.alloc (.cells #[.int .u16 x, .int .u16 z] 26)).cell? ⟨w1.heap.size, 0, none⟩ = some (.int .u16 x) from by simp [go_sem])
  have k1_2 : w2.cell? ⟨w1.heap.size, 1, none⟩ = some (.int .u16 z) := cell_on hb2 (show (w1.alloc (.cells #[.int .u16 x, .int .u16 z] 26)).cell? ⟨w1.heap.size, 1, none⟩ = some (.int .u16 z) from by simp [go_sem])
  have hg2_0 : w.heap.size < w2.heap.size := by omega
  have hg2_1 : w.heap.size + 1 < w2.heap.size := by omega
  have hg2_2 : w1.heap.size < w2.heap.size := by omega
  have hl2 : w.heap.size ≤ w2.heap.size := by omega
  have hw2 : Hid (Below w.heap.size w w2) := (hw1.out.alloc (by first | omega | (simp; done) | (simp; omega)) _).trans (hb2.mono (by first | omega | (simp; done) | (simp; omega)))
  clear hb2 a0_1 a1_1 d0_1 d1_1 hg1_0 hg1_1 hw1
  go_wp2_with (fail)
  refine (c3 _).mono ?_
  rintro e w3 ⟨rfl, hb3⟩
  have hz3 := hb3.size
  (try simp at hz3)
  have a0_3 : w3.cell? ⟨w.heap.size, 0, none⟩ = some (.int .u16 b) := cell_on hb3 (cell_alloc a0_2)
  have a1_3 : w3.cell? ⟨w.heap.size, 1, none⟩ = some (.int .i64 n) := cell_on hb3 (cell_alloc a1_2)
  have d0_3 : w3.cell? ⟨w.heap.size + 1, 0, none⟩ = some (.int .u16 c) := cell_on hb3 (cell_alloc d0_2)
  have d1_3 : w3.cell? ⟨w.heap.size + 1, 1, none⟩ = some (.int .i64 m) := cell_on hb3 (cell_alloc d1_2)
  have k0_3 : w3.cell? ⟨w1.heap.size, 0, none⟩ = some (.int .u16 x) := cell_on hb3 (cell_alloc k0_2)
  have k1_3 : w3.cell? ⟨w1.heap.size, 1, none⟩ = some (.int .u16 z) := cell_on hb3 (cell_alloc k1_2)
  have l0_3 : w3.cell? ⟨w2.heap.size, 0, none⟩ = some (.int .u16 x) := cell_on hb3 (show (w2.alloc (.cells #[.int .u16 x, .int .u16 z2] 26)).cell? ⟨w2.heap.size, 0, none⟩ = some (.int .u16 x) from by simp [go_sem])
  have l1_3 : w3.cell? ⟨w2.heap.size, 1, none⟩ = some (.int .u16 z2) := cell_on hb3 (show (w2.alloc (.cells #[.int .u16 x, .int .u16 z2] 26)).cell? ⟨w2.heap.size, 1, none⟩ = some (.int .u16 z2) from by simp [go_sem])
  have hg3_0 : w.heap.size < w3.heap.size := by omega
  have hg3_1 : w.heap.size + 1 < w3.heap.size := by omega
  have hg3_2 : w1.heap.size < w3.heap.size := by omega
  have hg3_3 : w2.heap.size < w3.heap.size := by omega
  have hl3 : w.heap.size ≤ w3.heap.size := by omega
  have hw3 : Hid (Below w.heap.size w w3) := (hw2.out.alloc (by first | omega | (simp; done) | (simp; omega)) _).trans (hb3.mono (by first | omega | (simp; done) | (simp; omega)))
  clear hb3 a0_2 a1_2 d0_2 d1_2 k0_2 k1_2 hg2_0 hg2_1 hg2_2 hw2
  go_wp2_with (fail)
  refine (c4 _).mono ?_
  rintro e w4 ⟨rfl, hb4⟩
  have hz4 := hb4.size
  (try simp at hz4)
  have a0_4 : w4.cell? ⟨w.heap.size, 0, none⟩ = some (.int .u16 b) := cell_on hb4 (cell_alloc a0_3)
  have a1_4 : w4.cell? ⟨w.heap.size, 1, none⟩ = some (.int .i64 n) := cell_on hb4 (cell_alloc a1_3)
  have d0_4 : w4.cell? ⟨w.heap.size + 1, 0, none⟩ = some (.int .u16 c) := cell_on hb4 (cell_alloc d0_3)
  have d1_4 : w4.cell? ⟨w.heap.size + 1, 1, none⟩ = some (.int .i64 m) := cell_on hb4 (cell_alloc d1_3)
  have k0_4 : w4.cell? ⟨w1.heap.size, 0, none⟩ = some (.int .u16 x) := cell_on hb4 (cell_alloc k0_3)
  have k1_4 : w4.cell? ⟨w1.heap.size, 1, none⟩ = some (.int .u16 z) := cell_on hb4 (cell_alloc k1_3)
  have l0_4 : w4.cell? ⟨w2.heap.size, 0, none⟩ = some (.int .u16 x) := cell_on hb4 (cell_alloc l0_3)
  have l1_4 : w4.cell? ⟨w2.heap.size, 1, none⟩ = some (.int .u16 z2) := cell_on hb4 (cell_alloc l1_3)
  have j0_4 : w4.cell? ⟨w3.heap.size, 0, none⟩ = some (.int .u16 (x : Nat)) := cell_on hb4 (show (w3.alloc (.cells #[.int .u16 (x : Nat), .int .u16 (z2 : Nat)] 26)).cell? ⟨w3.heap.size, 0, none⟩ = some (.int .u16 (x : Nat)) from by simp [go_sem])
  have j1_4 : w4.cell? ⟨w3.heap.size, 1, none⟩ = some (.int .u16 (z2 : Nat)) := cell_on hb4 (show (w3.alloc (.cells #[.int .u16 (x : Nat), .int .u16 (z2 : Nat)] 26)).cell? ⟨w3.heap.size, 1, none⟩ = some (.int .u16 (z2 : Nat)) from by simp [go_sem])
  have hg4_0 : w.heap.size < w4.heap.size := by omega
  have hg4_1 : w.heap.size + 1 < w4.heap.size := by omega
  have hg4_2 : w1.heap.size < w4.heap.size := by omega
  have hg4_3 : w2.heap.size < w4.heap.size := by omega
  have hg4_4 : w3.heap.size < w4.heap.size := by omega
  have hl4 : w.heap.size ≤ w4.heap.size := by omega
  have hw4 : Hid (Below w.heap.size w w4) := (hw3.out.alloc (by first | omega | (simp; done) | (simp; omega)) _).trans (hb4.mono (by first | omega | (simp; done) | (simp; omega)))
  clear hb4 a0_3 a1_3 d0_3 d1_3 k0_3 k1_3 l0_3 l1_3 hg3_0 hg3_1 hg3_2 hg3_3 hw3
  go_wp2_with (fail)
  refine (c5 _).mono ?_
  rintro e w5 ⟨rfl, hb5⟩
  have hz5 := hb5.size
  (try simp at hz5)
  have a0_5 : w5.cell? ⟨w.heap.size, 0, none⟩ = some (.int .u16 b) := cell_on hb5 a0_4
  have a1_5 : w5.cell? ⟨w.heap.size, 1, none⟩ = some (.int .i64 n) := cell_on hb5 a1_4
  have d0_5 : w5.cell? ⟨w.heap.size + 1, 0, none⟩ = some (.int .u16 c) := cell_on hb5 d0_4
  have d1_5 : w5.cell? ⟨w.heap.size + 1, 1, none⟩ = some (.int .i64 m) := cell_on hb5 d1_4
  have k0_5 : w5.cell? ⟨w1.heap.size, 0, none⟩ = some (.int .u16 x) := cell_on hb5 k0_4
  have k1_5 : w5.cell? ⟨w1.heap.size, 1, none⟩ = some (.int .u16 z) := cell_on hb5 k1_4
  have l0_5 : w5.cell? ⟨w2.heap.size, 0, none⟩ = some (.int .u16 x) := cell_on hb5 l0_4
  have l1_5 : w5.cell? ⟨w2.heap.size, 1, none⟩ = some (.int .u16 z2) := cell_on hb5 l1_4
  have j0_5 : w5.cell? ⟨w3.heap.size, 0, none⟩ = some (.int .u16 (x : Nat)) := cell_on hb5 j0_4
  have j1_5 : w5.cell? ⟨w3.heap.size, 1, none⟩ = some (.int .u16 (z2 : Nat)) := cell_on hb5 j1_4
  have hg5_0 : w.heap.size < w5.heap.size := by omega
  have hg5_1 : w.heap.size + 1 < w5.heap.size := by omega
  have hg5_2 : w1.heap.size < w5.heap.size := by omega
  have hg5_3 : w2.heap.size < w5.heap.size := by omega
  have hg5_4 : w3.heap.size < w5.heap.size := by omega
  have hl5 : w.heap.size ≤ w5.heap.size := by omega
  have hw5 : Hid (Below w.heap.size w w5) := hw4.out.trans (hb5.mono (by first | omega | (simp; done) | (simp; omega)))
  clear hb5 a0_4 a1_4 d0_4 d1_4 k0_4 k1_4 l0_4 l1_4 j0_4 j1_4 hg4_0 hg4_1 hg4_2 hg4_3 hg4_4 hw4
  go_wp2_with (fail)
  refine (ca _).mono ?_
  rintro e w6 ⟨rfl, hb6⟩
  have hz6 := hb6.size
  (try simp at hz6)
  have a0_6 : w6.cell? ⟨w.heap.size, 0, none⟩ = some (.int .u16 b) := cell_on hb6 a0_5
  have a1_6 : w6.cell? ⟨w.heap.size, 1, none⟩ = some (.int .i64 n) := cell_on hb6 a1_5
  have d0_6 : w6.cell? ⟨w.heap.size + 1, 0, none⟩ = some (.int .u16 c) := cell_on hb6 d0_5
  have d1_6 : w6.cell? ⟨w.heap.size + 1, 1, none⟩ = some (.int .i64 m) := cell_on hb6 d1_5
  have k0_6 : w6.cell? ⟨w1.heap.size, 0, none⟩ = some (.int .u16 x) := cell_on hb6 k0_5
  have k1_6 : w6.cell? ⟨w1.heap.size, 1, none⟩ = some (.int .u16 z) := cell_on hb6 k1_5
  have l0_6 : w6.cell? ⟨w2.heap.size, 0, none⟩ = some (.int .u16 x) := cell_on hb6 l0_5
  have l1_6 : w6.cell? ⟨w2.heap.size, 1, none⟩ = some (.int .u16 z2) := cell_on hb6 l1_5
  have j0_6 : w6.cell? ⟨w3.heap.size, 0, none⟩ = some (.int .u16 (x : Nat)) := cell_on hb6 j0_5
  have j1_6 : w6.cell? ⟨w3.heap.size, 1, none⟩ = some (.int .u16 (z2 : Nat)) := cell_on hb6 j1_5
  have hg6_0 : w.heap.size < w6.heap.size := by omega
  have hg6_1 : w.heap.size + 1 < w6.heap.size := by omega
  have hg6_2 : w1.heap.size < w6.heap.size := by omega
  have hg6_3 : w2.heap.size < w6.heap.size := by omega
  have hg6_4 : w3.heap.size < w6.heap.size := by omega
  have hl6 : w.heap.size ≤ w6.heap.size := by omega
  have hw6 : Hid (Below w.heap.size w w6) := hw5.out.trans (hb6.mono (by first | omega | (simp; done) | (simp; omega)))
  clear hb6 a0_5 a1_5 d0_5 d1_5 k0_5 k1_5 l0_5 l1_5 j0_5 j1_5 hg5_0 hg5_1 hg5_2 hg5_3 hg5_4 hw5
  go_wp2_with (fail)
  refine (c6 _).mono ?_
  rintro e w7 ⟨rfl, hb7⟩
  have hz7 := hb7.size
  (try simp at hz7)
  have a0_7 : w7.cell? ⟨w.heap.size, 0, none⟩ = some (.int .u16 b) := cell_on hb7 a0_6
  have a1_7 : w7.cell? ⟨w.heap.size, 1, none⟩ = some (.int .i64 n) := cell_on hb7 a1_6
  have d0_7 : w7.cell? ⟨w.heap.size + 1, 0, none⟩ = some (.int .u16 c) := cell_on hb7 d0_6
  have d1_7 : w7.cell? ⟨w.heap.size + 1, 1, none⟩ = some (.int .i64 m) := cell_on hb7 d1_6
  have k0_7 : w7.cell? ⟨w1.heap.size, 0, none⟩ = some (.int .u16 x) := cell_on hb7 k0_6
  have k1_7 : w7.cell? ⟨w1.heap.size, 1, none⟩ = some (.int .u16 z) := cell_on hb7 k1_6
  have l0_7 : w7.cell? ⟨w2.heap.size, 0, none⟩ = some (.int .u16 x) := cell_on hb7 l0_6
  have l1_7 : w7.cell? ⟨w2.heap.size, 1, none⟩ = some (.int .u16 z2) := cell_on hb7 l1_6
  have j0_7 : w7.cell? ⟨w3.heap.size, 0, none⟩ = some (.int .u16 (x : Nat)) := cell_on hb7 j0_6
  have j1_7 : w7.cell? ⟨w3.heap.size, 1, none⟩ = some (.int .u16 (z2 : Nat)) := cell_on hb7 j1_6
  have hg7_0 : w.heap.size < w7.heap.size := by omega
  have hg7_1 : w.heap.size + 1 < w7.heap.size := by omega
  have hg7_2 : w1.heap.size < w7.heap.size := by omega
  have hg7_3 : w2.heap.size < w7.heap.size := by omega
  have hg7_4 : w3.heap.size < w7.heap.size := by omega
  have hl7 : w.heap.size ≤ w7.heap.size := by omega
  have hw7 : Hid (Below w.heap.size w w7) := hw6.out.trans (hb7.mono (by first | omega | (simp; done) | (simp; omega)))
  clear hb7 a0_6 a1_6 d0_6 d1_6 k0_6 k1_6 l0_6 l1_6 j0_6 j1_6 hg6_0 hg6_1 hg6_2 hg6_3 hg6_4 hw6
  go_wp2
  go_ret
  exact ⟨rfl, hw7.out⟩
theorem expandMeets_core (hHas : HasC) (hN : SpnN) (hC : SpnC)
    (ca : ∀ W, Calls Try.prog 11 #[] W fun e w' => e = .returned (.bool true) ∧ Below W.heap.size W w') (b : Nat) (n : Int) (hb : b < 65536) (c : Nat) (m : Int) (hc : c < 65536) (q : Nat) (hq : q < 65536) (w : World) :
    Calls Try.prog 8 #[.agg #[.int .u16 b, .int .i64 n], .agg #[.int .u16 c, .int .i64 m], .int .u16 q] w fun e w' => e = .returned (.bool true) ∧ Below w.heap.size w w' := by
  have cH1 := fun W => hHas b n q W hb hq
  have cH2 := fun W => hHas c m q W hc hq
  cases h1 : mayT b n
  · cases h2 : mayT c m
    · exact expandMeets_bb b n c m q 0 0 0 0 (fun W => hN b n W hb h1) (fun W => hN c m W hc h2) ca w
    · exact expandMeets_bg b n c m q 0 0 _ _ (fun W => hN b n W hb h1) (fun W => hC c m W hc h2) ca w
  · cases h2 : mayT c m
    · exact expandMeets_gb b n c m q _ _ 0 0 (fun W => hC b n W hb h1) (fun W => hN c m W hc h2) ca w
    · have c1 := fun W => hC b n W hb h1
      have c2 := fun W => hC c m W hc h2
      have hs := fun W => hasS (max b c) (min (topT b n) (topT c m)) q W
      rw [← both_meet h1 h2] at hs
      by_cases hm : max b c ≤ min (topT b n) (topT c m)
      · have c3 := fun W => meet_yes b (topT b n) c (topT c m) W hm
        have hx : (max b c = b ∧ min (topT b n) (topT c m) = topT b n) ∨ ((max b c = c ∧ min (topT b n) (topT c m) = topT c m) ∧ ¬ (c = b ∧ topT c m = topT b n)) := by
          rcases stems_meet h1 h2 hm with h | h
          · exact .inl h
          · by_cases he : c = b ∧ topT c m = topT b n
            · exact .inl (by omega)
            · exact .inr ⟨h, he⟩
        rcases hx with ⟨e1, e2⟩ | ⟨⟨e1, e2⟩, hne⟩
        · rw [e1, e2] at c3 hs
          cases ha : hasT b n q
          · rw [ha] at cH1 hs
            exact expandMeets_x0 b n c m q _ _ _ _ c1 c2 c3 cH1 hs ca w
          · cases hb2 : hasT c m q
            · rw [ha] at cH1 hs; rw [hb2] at cH2 hs
              exact expandMeets_x10 b n c m q _ _ _ _ c1 c2 c3 cH1 cH2 hs ca w
            · rw [ha] at cH1 hs; rw [hb2] at cH2 hs
              exact expandMeets_x11 b n c m q _ _ _ _ c1 c2 c3 cH1 cH2 hs ca w
        · rw [e1, e2] at c3 hs
          by_cases hcb : c = b
          · have hne2 : ¬ topT c m = topT b n := fun h => hne ⟨hcb, h⟩
            subst hcb
            cases ha : hasT c n q
            · rw [ha] at cH1 hs
              exact expandMeets_v0 c n c m q _ _ _ hne2 c1 c2 c3 cH1 hs ca w
            · cases hb2 : hasT c m q
              · rw [ha] at cH1 hs; rw [hb2] at cH2 hs
                exact expandMeets_v10 c n c m q _ _ _ hne2 c1 c2 c3 cH1 cH2 hs ca w
              · rw [ha] at cH1 hs; rw [hb2] at cH2 hs
                exact expandMeets_v11 c n c m q _ _ _ hne2 c1 c2 c3 cH1 cH2 hs ca w
          · cases ha : hasT b n q
            · rw [ha] at cH1 hs
              exact expandMeets_y0 b n c m q _ _ _ _ hcb c1 c2 c3 cH1 hs ca w
            · cases hb2 : hasT c m q
              · rw [ha] at cH1 hs; rw [hb2] at cH2 hs
                exact expandMeets_y10 b n c m q _ _ _ _ hcb c1 c2 c3 cH1 cH2 hs ca w
              · rw [ha] at cH1 hs; rw [hb2] at cH2 hs
                exact expandMeets_y11 b n c m q _ _ _ _ hcb c1 c2 c3 cH1 cH2 hs ca w
      · have c3 := fun W => meet_no b (topT b n) c (topT c m) W hm
        have hz := both_none h1 h2 hm q
        cases ha : hasT b n q
        · rw [ha] at cH1
          exact expandMeets_n0 b n c m q _ _ _ _ c1 c2 c3 cH1 ca w
        · cases hb2 : hasT c m q
          · rw [ha] at cH1; rw [hb2] at cH2
            exact expandMeets_n10 b n c m q _ _ _ _ c1 c2 c3 cH1 cH2 ca w
          · rw [ha, hb2] at hz; cases hz
end Go.Proofs.Ytapaoemcjpfpoaa
