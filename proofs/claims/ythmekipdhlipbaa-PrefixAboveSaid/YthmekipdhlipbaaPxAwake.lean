/-
  The document's examples hold ('awake' answers true); nothing that was there before the call is touched.
-/
import Derived.Test.YthmekipdhlipbaaPxV
namespace Go.Proofs.Ythmekipdhlipbaa
open Go.RowKit
set_option linter.unusedVariables false
set_option linter.unusedSimpArgs false

theorem less_ex : lessP 0 0 3221225472 2 = [(0, 1), (2147483648, 2)] := by decide +kernel
set_option maxRecDepth 100000 in
set_option maxHeartbeats 4000000 in
theorem awake_any (w : World) : Calls Try.prog 11 #[] w fun e w' => e = .returned (.bool true) ∧ Below w.heap.size w w' := by
  have cOf1 : ∀ w1 : World, Calls Try.prog 40 #[.int .u32 167838211, .int .i64 8] w1 fun e w' => e = .returned (.tuple #[.agg #[.int .u32 167772160, .int .i64 8], .int .i64 0]) ∧ Below w1.heap.size w1 w' := fun w1 => by
    have := of_any 167838211 8 w1 (by decide)
    rw [show oA 167838211 8 = 167772160 by decide +kernel, show oN 8 = 8 by decide +kernel, show oE 8 = 0 by decide +kernel] at this
    exact this
  have cOf2 : ∀ w1 : World, Calls Try.prog 40 #[.int .u32 1, .int .i64 33] w1 fun e w' => e = .returned (.tuple #[.agg #[.int .u32 0, .int .i64 0], .int .i64 20]) ∧ Below w1.heap.size w1 w' := fun w1 => by
    have := of_any 1 33 w1 (by decide)
    rw [show oA 1 33 = 0 by decide +kernel, show oN 33 = 0 by decide +kernel, show oE 33 = 20 by decide +kernel] at this
    exact this
  have cLess : ∀ w1 : World, Calls Try.prog 41 #[.agg #[.int .u32 0, .int .i64 0], .agg #[.int .u32 3221225472, .int .i64 2]] w1 fun e w' => ∃ g cap : Nat, e = .returned (.slice (some ⟨g, 0, none⟩) 2 cap) ∧ (w'.cell? ⟨g, 0, none⟩ = some (.int .u32 0) ∧ w'.cell? ⟨g, 1, none⟩ = some (.int .i64 1) ∧ w'.cell? ⟨g, 2, none⟩ = some (.int .u32 2147483648) ∧ w'.cell? ⟨g, 3, none⟩ = some (.int .i64 2)) ∧ Below w1.heap.size w1 w' := fun w1 => by
    refine (less_any 0 0 3221225472 2 w1 (by decide) (by decide)).mono ?_
    rintro e w' ⟨v, rfl, hr, hb⟩
    rw [less_ex] at hr
    obtain ⟨g, cap, rfl, _, _⟩ := World.ownsRow.form hr (by decide)
    exact ⟨g, cap, rfl, ⟨World.ownsRow.cellAt hr 0 (by decide), World.ownsRow.cellAt hr 1 (by decide), World.ownsRow.cellAt hr 2 (by decide), World.ownsRow.cellAt hr 3 (by decide)⟩, hb⟩
  have cHalf : ∀ w1 : World, Calls Try.prog 13 #[.agg #[.int .u32 0, .int .i64 0]] w1 fun e w' => e = .returned (.tuple #[.agg #[.int .u32 0, .int .i64 1], .agg #[.int .u32 2147483648, .int .i64 1], .int .i64 0]) ∧ Below w1.heap.size w1 w' := fun w1 => by
    have := halves_any 0 0 w1 (by decide)
    rw [show hA 0 0 = 0 by decide +kernel, show hB 0 0 = 2147483648 by decide +kernel, show hN 0 0 = 1 by decide +kernel, show hE 0 0 = 0 by decide +kernel] at this
    exact this
  have cHas1 : ∀ w1 : World, Calls Try.prog 14 #[.agg #[.int .u32 167772160, .int .i64 8], .int .u32 184549375] w1 fun e w' => e = .returned (.bool true) ∧ Below w1.heap.size w1 w' := fun w1 => by
    have := has_any 167772160 8 184549375 w1 (by decide) (by decide)
    rw [show hasB 167772160 8 184549375 = true by decide +kernel] at this
    exact this
  have cHas2 : ∀ w1 : World, Calls Try.prog 14 #[.agg #[.int .u32 167772160, .int .i64 8], .int .u32 184549376] w1 fun e w' => e = .returned (.bool false) ∧ Below w1.heap.size w1 w' := fun w1 => by
    have := has_any 167772160 8 184549376 w1 (by decide) (by decide)
    rw [show hasB 167772160 8 184549376 = false by decide +kernel] at this
    exact this
  have cWit1 : ∀ w1 : World, Calls Try.prog 16 #[.agg #[.int .u32 167772160, .int .i64 8], .agg #[.int .u32 0, .int .i64 0]] w1 fun e w' => e = .returned (.bool true) ∧ Below w1.heap.size w1 w' := fun w1 => by
    have := within_any 167772160 8 0 0 w1 (by decide) (by decide)
    rw [show witB 167772160 8 0 0 = true by decide +kernel] at this
    exact this
  have cWit2 : ∀ w1 : World, Calls Try.prog 16 #[.agg #[.int .u32 0, .int .i64 0], .agg #[.int .u32 167772160, .int .i64 8]] w1 fun e w' => e = .returned (.bool false) ∧ Below w1.heap.size w1 w' := fun w1 => by
    have := within_any 0 0 167772160 8 w1 (by decide) (by decide)
    rw [show witB 0 0 167772160 8 = false by decide +kernel] at this
    exact this
  have cCmp : ∀ w1 : World, Calls Try.prog 15 #[.agg #[.int .u32 167772160, .int .i64 8], .agg #[.int .u32 0, .int .i64 0]] w1 fun e w' => e = .returned (.int .i64 1) ∧ Below w1.heap.size w1 w' := fun w1 => compare_any 167772160 8 0 0 w1
  go_enter Try.func11, Try.ntmps11
  go_wp2_with (fail)
  refine (cOf1 _).mono ?_
  rintro e w1 ⟨rfl, hb1⟩
  have hz1 := hb1.size
  (try simp at hz1)
  have hl1_0 : w.heap.size < w1.heap.size := by omega
  have c1_0 : w1.cell? ⟨w.heap.size, 0, none⟩ = some (.int .u32 0) := cell_on hb1 (show (w.alloc (.cells #[.int .u32 0, .int .i64 0] 24)).cell? ⟨w.heap.size, 0, none⟩ = some (.int .u32 0) from by simp [go_sem])
  have c1_1 : w1.cell? ⟨w.heap.size, 1, none⟩ = some (.int .i64 0) := cell_on hb1 (show (w.alloc (.cells #[.int .u32 0, .int .i64 0] 24)).cell? ⟨w.heap.size, 1, none⟩ = some (.int .i64 0) from by simp [go_sem])
  have hw1 : Below w.heap.size w w1 := by (repeat (first | assumption | exact Below.refl _ _ | refine Below.drew ?_ | refine bel_drewN ?_ _ | refine Below.setCell ?_ (by first | omega | (simp; done) | (simp; omega)) _ | refine Below.alloc ?_ (by first | omega | (simp; done) | (simp; omega)) _ | refine bel_of ?_ (by assumption)))
  clear hb1
  go_wp2_with (fail)
  refine (cOf2 _).mono ?_
  rintro e w2 ⟨rfl, hb2⟩
  have hz2 := hb2.size
  (try simp at hz2)
  have hl2_0 : w.heap.size < w2.heap.size := by omega
  have hl2_1 : w1.heap.size < w2.heap.size := by omega
  have c2_0 : w2.cell? ⟨w.heap.size, 0, none⟩ = some (.int .u32 0) := cell_on hb2 (cell_alloc c1_0)
  have c2_1 : w2.cell? ⟨w.heap.size, 1, none⟩ = some (.int .i64 0) := cell_on hb2 (cell_alloc c1_1)
  have c2_2 : w2.cell? ⟨w1.heap.size, 0, none⟩ = some (.int .u32 167772160) := cell_on hb2 (show (w1.alloc (.cells #[.int .u32 167772160, .int .i64 8] 24)).cell? ⟨w1.heap.size, 0, none⟩ = some (.int .u32 167772160) from by simp [go_sem])
  have c2_3 : w2.cell? ⟨w1.heap.size, 1, none⟩ = some (.int .i64 8) := cell_on hb2 (show (w1.alloc (.cells #[.int .u32 167772160, .int .i64 8] 24)).cell? ⟨w1.heap.size, 1, none⟩ = some (.int .i64 8) from by simp [go_sem])
  have hw2 : Below w.heap.size w w2 := by (repeat (first | assumption | exact Below.refl _ _ | refine Below.drew ?_ | refine bel_drewN ?_ _ | refine Below.setCell ?_ (by first | omega | (simp; done) | (simp; omega)) _ | refine Below.alloc ?_ (by first | omega | (simp; done) | (simp; omega)) _ | refine bel_of ?_ (by assumption)))
  clear hb2 hz1 hl1_0 c1_0 c1_1 hw1
  go_wp2_with (fail)
  refine (cLess _).mono ?_
  rintro e w3 ⟨g, cap, rfl, ⟨g0, g1, g2, g3⟩, hb3⟩
  have hg := World.block_lt_of_cell? _ _ g0
  simp only at hg
  have hz3 := hb3.size
  (try simp at hz3)
  have hl3_0 : w.heap.size < w3.heap.size := by omega
  have hl3_1 : w1.heap.size < w3.heap.size := by omega
  have hl3_2 : w2.heap.size < w3.heap.size := by omega
  have c3_0 : w3.cell? ⟨w.heap.size, 0, none⟩ = some (.int .u32 0) := cell_on hb3 (cell_alloc c2_0)
  have c3_1 : w3.cell? ⟨w.heap.size, 1, none⟩ = some (.int .i64 0) := cell_on hb3 (cell_alloc c2_1)
  have c3_2 : w3.cell? ⟨w1.heap.size, 0, none⟩ = some (.int .u32 167772160) := cell_on hb3 (cell_alloc c2_2)
  have c3_3 : w3.cell? ⟨w1.heap.size, 1, none⟩ = some (.int .i64 8) := cell_on hb3 (cell_alloc c2_3)
  have c3_4 : w3.cell? ⟨w2.heap.size, 0, none⟩ = some (.int .u32 0) := cell_on hb3 (show (w2.alloc (.cells #[.int .u32 0, .int .i64 0] 24)).cell? ⟨w2.heap.size, 0, none⟩ = some (.int .u32 0) from by simp [go_sem])
  have c3_5 : w3.cell? ⟨w2.heap.size, 1, none⟩ = some (.int .i64 0) := cell_on hb3 (show (w2.alloc (.cells #[.int .u32 0, .int .i64 0] 24)).cell? ⟨w2.heap.size, 1, none⟩ = some (.int .i64 0) from by simp [go_sem])
  have hw3 : Below w.heap.size w w3 := by (repeat (first | assumption | exact Below.refl _ _ | refine Below.drew ?_ | refine bel_drewN ?_ _ | refine Below.setCell ?_ (by first | omega | (simp; done) | (simp; omega)) _ | refine Below.alloc ?_ (by first | omega | (simp; done) | (simp; omega)) _ | refine bel_of ?_ (by assumption)))
  clear hb3 hz2 hl2_0 hl2_1 c2_0 c2_1 c2_2 c2_3 hw2
  go_wp2_with (fail)
  refine (cHalf _).mono ?_
  rintro e w4 ⟨rfl, hb4⟩
  have hz4 := hb4.size
  (try simp at hz4)
  have hl4_0 : w.heap.size < w4.heap.size := by omega
  have hl4_1 : w1.heap.size < w4.heap.size := by omega
  have hl4_2 : w2.heap.size < w4.heap.size := by omega
  have hl4_3 : g < w4.heap.size := by omega
  have c4_0 : w4.cell? ⟨w.heap.size, 0, none⟩ = some (.int .u32 0) := cell_on hb4 c3_0
  have c4_1 : w4.cell? ⟨w.heap.size, 1, none⟩ = some (.int .i64 0) := cell_on hb4 c3_1
  have c4_2 : w4.cell? ⟨w1.heap.size, 0, none⟩ = some (.int .u32 167772160) := cell_on hb4 c3_2
  have c4_3 : w4.cell? ⟨w1.heap.size, 1, none⟩ = some (.int .i64 8) := cell_on hb4 c3_3
  have c4_4 : w4.cell? ⟨w2.heap.size, 0, none⟩ = some (.int .u32 0) := cell_on hb4 c3_4
  have c4_5 : w4.cell? ⟨w2.heap.size, 1, none⟩ = some (.int .i64 0) := cell_on hb4 c3_5
  have c4_6 : w4.cell? ⟨g, 0, none⟩ = some (.int .u32 0) := cell_on hb4 g0
  have c4_7 : w4.cell? ⟨g, 1, none⟩ = some (.int .i64 1) := cell_on hb4 g1
  have c4_8 : w4.cell? ⟨g, 2, none⟩ = some (.int .u32 2147483648) := cell_on hb4 g2
  have c4_9 : w4.cell? ⟨g, 3, none⟩ = some (.int .i64 2) := cell_on hb4 g3
  have hw4 : Below w.heap.size w w4 := by (repeat (first | assumption | exact Below.refl _ _ | refine Below.drew ?_ | refine bel_drewN ?_ _ | refine Below.setCell ?_ (by first | omega | (simp; done) | (simp; omega)) _ | refine Below.alloc ?_ (by first | omega | (simp; done) | (simp; omega)) _ | refine bel_of ?_ (by assumption)))
  clear hb4 hz3 hl3_0 hl3_1 hl3_2 c3_0 c3_1 c3_2 c3_3 c3_4 c3_5 hw3 g0 g1 g2 g3 hg
  go_wp2_with (fail)
  refine (cHas1 _).mono ?_
  rintro e w5 ⟨rfl, hb5⟩
  have hz5 := hb5.size
  (try simp at hz5)
  have hl5_0 : w.heap.size < w5.heap.size := by omega
  have hl5_1 : w1.heap.size < w5.heap.size := by omega
  have hl5_2 : w2.heap.size < w5.heap.size := by omega
  have hl5_3 : g < w5.heap.size := by omega
  have hl5_4 : w4.heap.size < w5.heap.size := by omega
  have hl5_5 : w4.heap.size + 1 < w5.heap.size := by omega
  have c5_0 : w5.cell? ⟨w.heap.size, 0, none⟩ = some (.int .u32 0) := cell_on hb5 (cell_alloc (cell_alloc c4_0))
  have c5_1 : w5.cell? ⟨w.heap.size, 1, none⟩ = some (.int .i64 0) := cell_on hb5 (cell_alloc (cell_alloc c4_1))
  have c5_2 : w5.cell? ⟨w1.heap.size, 0, none⟩ = some (.int .u32 167772160) := cell_on hb5 (cell_alloc (cell_alloc c4_2))
  have c5_3 : w5.cell? ⟨w1.heap.size, 1, none⟩ = some (.int .i64 8) := cell_on hb5 (cell_alloc (cell_alloc c4_3))
  have c5_4 : w5.cell? ⟨w2.heap.size, 0, none⟩ = some (.int .u32 0) := cell_on hb5 (cell_alloc (cell_alloc c4_4))
  have c5_5 : w5.cell? ⟨w2.heap.size, 1, none⟩ = some (.int .i64 0) := cell_on hb5 (cell_alloc (cell_alloc c4_5))
  have c5_6 : w5.cell? ⟨g, 0, none⟩ = some (.int .u32 0) := cell_on hb5 (cell_alloc (cell_alloc c4_6))
  have c5_7 : w5.cell? ⟨g, 1, none⟩ = some (.int .i64 1) := cell_on hb5 (cell_alloc (cell_alloc c4_7))
  have c5_8 : w5.cell? ⟨g, 2, none⟩ = some (.int .u32 2147483648) := cell_on hb5 (cell_alloc (cell_alloc c4_8))
  have c5_9 : w5.cell? ⟨g, 3, none⟩ = some (.int .i64 2) := cell_on hb5 (cell_alloc (cell_alloc c4_9))
  have c5_10 : w5.cell? ⟨w4.heap.size, 0, none⟩ = some (.int .u32 0) := cell_on hb5 (show ((w4.alloc (.cells #[.int .u32 0, .int .i64 1] 24)).alloc (.cells #[.int .u32 2147483648, .int .i64 1] 24)).cell? ⟨w4.heap.size, 0, none⟩ = some (.int .u32 0) from by simp [go_sem])
  have c5_11 : w5.cell? ⟨w4.heap.size, 1, none⟩ = some (.int .i64 1) := cell_on hb5 (show ((w4.alloc (.cells #[.int .u32 0, .int .i64 1] 24)).alloc (.cells #[.int .u32 2147483648, .int .i64 1] 24)).cell? ⟨w4.heap.size, 1, none⟩ = some (.int .i64 1) from by simp [go_sem])
  have c5_12 : w5.cell? ⟨w4.heap.size + 1, 0, none⟩ = some (.int .u32 2147483648) := cell_on hb5 (show ((w4.alloc (.cells #[.int .u32 0, .int .i64 1] 24)).alloc (.cells #[.int .u32 2147483648, .int .i64 1] 24)).cell? ⟨w4.heap.size + 1, 0, none⟩ = some (.int .u32 2147483648) from by simp [go_sem])
  have c5_13 : w5.cell? ⟨w4.heap.size + 1, 1, none⟩ = some (.int .i64 1) := cell_on hb5 (show ((w4.alloc (.cells #[.int .u32 0, .int .i64 1] 24)).alloc (.cells #[.int .u32 2147483648, .int .i64 1] 24)).cell? ⟨w4.heap.size + 1, 1, none⟩ = some (.int .i64 1) from by simp [go_sem])
  have hw5 : Below w.heap.size w w5 := by (repeat (first | assumption | exact Below.refl _ _ | refine Below.drew ?_ | refine bel_drewN ?_ _ | refine Below.setCell ?_ (by first | omega | (simp; done) | (simp; omega)) _ | refine Below.alloc ?_ (by first | omega | (simp; done) | (simp; omega)) _ | refine bel_of ?_ (by assumption)))
  clear hb5 hz4 hl4_0 hl4_1 hl4_2 hl4_3 c4_0 c4_1 c4_2 c4_3 c4_4 c4_5 c4_6 c4_7 c4_8 c4_9 hw4
  go_wp2_with (fail)
  refine (cHas2 _).mono ?_
  rintro e w6 ⟨rfl, hb6⟩
  have hz6 := hb6.size
  (try simp at hz6)
  have hl6_0 : w.heap.size < w6.heap.size := by omega
  have hl6_1 : w1.heap.size < w6.heap.size := by omega
  have hl6_2 : w2.heap.size < w6.heap.size := by omega
  have hl6_3 : g < w6.heap.size := by omega
  have hl6_4 : w4.heap.size < w6.heap.size := by omega
  have hl6_5 : w4.heap.size + 1 < w6.heap.size := by omega
  have c6_0 : w6.cell? ⟨w.heap.size, 0, none⟩ = some (.int .u32 0) := cell_on hb6 c5_0
  have c6_1 : w6.cell? ⟨w.heap.size, 1, none⟩ = some (.int .i64 0) := cell_on hb6 c5_1
  have c6_2 : w6.cell? ⟨w1.heap.size, 0, none⟩ = some (.int .u32 167772160) := cell_on hb6 c5_2
  have c6_3 : w6.cell? ⟨w1.heap.size, 1, none⟩ = some (.int .i64 8) := cell_on hb6 c5_3
  have c6_4 : w6.cell? ⟨w2.heap.size, 0, none⟩ = some (.int .u32 0) := cell_on hb6 c5_4
  have c6_5 : w6.cell? ⟨w2.heap.size, 1, none⟩ = some (.int .i64 0) := cell_on hb6 c5_5
  have c6_6 : w6.cell? ⟨g, 0, none⟩ = some (.int .u32 0) := cell_on hb6 c5_6
  have c6_7 : w6.cell? ⟨g, 1, none⟩ = some (.int .i64 1) := cell_on hb6 c5_7
  have c6_8 : w6.cell? ⟨g, 2, none⟩ = some (.int .u32 2147483648) := cell_on hb6 c5_8
  have c6_9 : w6.cell? ⟨g, 3, none⟩ = some (.int .i64 2) := cell_on hb6 c5_9
  have c6_10 : w6.cell? ⟨w4.heap.size, 0, none⟩ = some (.int .u32 0) := cell_on hb6 c5_10
  have c6_11 : w6.cell? ⟨w4.heap.size, 1, none⟩ = some (.int .i64 1) := cell_on hb6 c5_11
  have c6_12 : w6.cell? ⟨w4.heap.size + 1, 0, none⟩ = some (.int .u32 2147483648) := cell_on hb6 c5_12
  have c6_13 : w6.cell? ⟨w4.heap.size + 1, 1, none⟩ = some (.int .i64 1) := cell_on hb6 c5_13
  have hw6 : Below w.heap.size w w6 := by (repeat (first | assumption | exact Below.refl _ _ | refine Below.drew ?_ | refine bel_drewN ?_ _ | refine Below.setCell ?_ (by first | omega | (simp; done) | (simp; omega)) _ | refine Below.alloc ?_ (by first | omega | (simp; done) | (simp; omega)) _ | refine bel_of ?_ (by assumption)))
  clear hb6 hz5 hl5_0 hl5_1 hl5_2 hl5_3 hl5_4 hl5_5 c5_0 c5_1 c5_2 c5_3 c5_4 c5_5 c5_6 c5_7 c5_8 c5_9 c5_10 c5_11 c5_12 c5_13 hw5
  go_wp2_with (fail)
  refine (cWit1 _).mono ?_
  rintro e w7 ⟨rfl, hb7⟩
  have hz7 := hb7.size
  (try simp at hz7)
  have hl7_0 : w.heap.size < w7.heap.size := by omega
  have hl7_1 : w1.heap.size < w7.heap.size := by omega
  have hl7_2 : w2.heap.size < w7.heap.size := by omega
  have hl7_3 : g < w7.heap.size := by omega
  have hl7_4 : w4.heap.size < w7.heap.size := by omega
  have hl7_5 : w4.heap.size + 1 < w7.heap.size := by omega
  have c7_0 : w7.cell? ⟨w.heap.size, 0, none⟩ = some (.int .u32 0) := cell_on hb7 c6_0
  have c7_1 : w7.cell? ⟨w.heap.size, 1, none⟩ = some (.int .i64 0) := cell_on hb7 c6_1
  have c7_2 : w7.cell? ⟨w1.heap.size, 0, none⟩ = some (.int .u32 167772160) := cell_on hb7 c6_2
  have c7_3 : w7.cell? ⟨w1.heap.size, 1, none⟩ = some (.int .i64 8) := cell_on hb7 c6_3
  have c7_4 : w7.cell? ⟨w2.heap.size, 0, none⟩ = some (.int .u32 0) := cell_on hb7 c6_4
  have c7_5 : w7.cell? ⟨w2.heap.size, 1, none⟩ = some (.int .i64 0) := cell_on hb7 c6_5
  have c7_6 : w7.cell? ⟨g, 0, none⟩ = some (.int .u32 0) := cell_on hb7 c6_6
  have c7_7 : w7.cell? ⟨g, 1, none⟩ = some (.int .i64 1) := cell_on hb7 c6_7
  have c7_8 : w7.cell? ⟨g, 2, none⟩ = some (.int .u32 2147483648) := cell_on hb7 c6_8
  have c7_9 : w7.cell? ⟨g, 3, none⟩ = some (.int .i64 2) := cell_on hb7 c6_9
  have c7_10 : w7.cell? ⟨w4.heap.size, 0, none⟩ = some (.int .u32 0) := cell_on hb7 c6_10
  have c7_11 : w7.cell? ⟨w4.heap.size, 1, none⟩ = some (.int .i64 1) := cell_on hb7 c6_11
  have c7_12 : w7.cell? ⟨w4.heap.size + 1, 0, none⟩ = some (.int .u32 2147483648) := cell_on hb7 c6_12
  have c7_13 : w7.cell? ⟨w4.heap.size + 1, 1, none⟩ = some (.int .i64 1) := cell_on hb7 c6_13
  have hw7 : Below w.heap.size w w7 := by (repeat (first | assumption | exact Below.refl _ _ | refine Below.drew ?_ | refine bel_drewN ?_ _ | refine Below.setCell ?_ (by first | omega | (simp; done) | (simp; omega)) _ | refine Below.alloc ?_ (by first | omega | (simp; done) | (simp; omega)) _ | refine bel_of ?_ (by assumption)))
  clear hb7 hz6 hl6_0 hl6_1 hl6_2 hl6_3 hl6_4 hl6_5 c6_0 c6_1 c6_2 c6_3 c6_4 c6_5 c6_6 c6_7 c6_8 c6_9 c6_10 c6_11 c6_12 c6_13 hw6
  go_wp2_with (fail)
  refine (cWit2 _).mono ?_
  rintro e w8 ⟨rfl, hb8⟩
  have hz8 := hb8.size
  (try simp at hz8)
  have hl8_0 : w.heap.size < w8.heap.size := by omega
  have hl8_1 : w1.heap.size < w8.heap.size := by omega
  have hl8_2 : w2.heap.size < w8.heap.size := by omega
  have hl8_3 : g < w8.heap.size := by omega
  have hl8_4 : w4.heap.size < w8.heap.size := by omega
  have hl8_5 : w4.heap.size + 1 < w8.heap.size := by omega
  have c8_0 : w8.cell? ⟨w.heap.size, 0, none⟩ = some (.int .u32 0) := cell_on hb8 c7_0
  have c8_1 : w8.cell? ⟨w.heap.size, 1, none⟩ = some (.int .i64 0) := cell_on hb8 c7_1
  have c8_2 : w8.cell? ⟨w1.heap.size, 0, none⟩ = some (.int .u32 167772160) := cell_on hb8 c7_2
  have c8_3 : w8.cell? ⟨w1.heap.size, 1, none⟩ = some (.int .i64 8) := cell_on hb8 c7_3
  have c8_4 : w8.cell? ⟨w2.heap.size, 0, none⟩ = some (.int .u32 0) := cell_on hb8 c7_4
  have c8_5 : w8.cell? ⟨w2.heap.size, 1, none⟩ = some (.int .i64 0) := cell_on hb8 c7_5
  have c8_6 : w8.cell? ⟨g, 0, none⟩ = some (.int .u32 0) := cell_on hb8 c7_6
  have c8_7 : w8.cell? ⟨g, 1, none⟩ = some (.int .i64 1) := cell_on hb8 c7_7
  have c8_8 : w8.cell? ⟨g, 2, none⟩ = some (.int .u32 2147483648) := cell_on hb8 c7_8
  have c8_9 : w8.cell? ⟨g, 3, none⟩ = some (.int .i64 2) := cell_on hb8 c7_9
  have c8_10 : w8.cell? ⟨w4.heap.size, 0, none⟩ = some (.int .u32 0) := cell_on hb8 c7_10
  have c8_11 : w8.cell? ⟨w4.heap.size, 1, none⟩ = some (.int .i64 1) := cell_on hb8 c7_11
  have c8_12 : w8.cell? ⟨w4.heap.size + 1, 0, none⟩ = some (.int .u32 2147483648) := cell_on hb8 c7_12
  have c8_13 : w8.cell? ⟨w4.heap.size + 1, 1, none⟩ = some (.int .i64 1) := cell_on hb8 c7_13
  have hw8 : Below w.heap.size w w8 := by (repeat (first | assumption | exact Below.refl _ _ | refine Below.drew ?_ | refine bel_drewN ?_ _ | refine Below.setCell ?_ (by first | omega | (simp; done) | (simp; omega)) _ | refine Below.alloc ?_ (by first | omega | (simp; done) | (simp; omega)) _ | refine bel_of ?_ (by assumption)))
  clear hb8 hz7 hl7_0 hl7_1 hl7_2 hl7_3 hl7_4 hl7_5 c7_0 c7_1 c7_2 c7_3 c7_4 c7_5 c7_6 c7_7 c7_8 c7_9 c7_10 c7_11 c7_12 c7_13 hw7
  go_wp2_with (fail)
  refine (cCmp _).mono ?_
  rintro e w9 ⟨rfl, hb9⟩
  have hz9 := hb9.size
  (try simp at hz9)
  have hl9_0 : w.heap.size < w9.heap.size := by omega
  have hl9_1 : w1.heap.size < w9.heap.size := by omega
  have hl9_2 : w2.heap.size < w9.heap.size := by omega
  have hl9_3 : g < w9.heap.size := by omega
  have hl9_4 : w4.heap.size < w9.heap.size := by omega
  have hl9_5 : w4.heap.size + 1 < w9.heap.size := by omega
  have c9_0 : w9.cell? ⟨w.heap.size, 0, none⟩ = some (.int .u32 0) := cell_on hb9 c8_0
  have c9_1 : w9.cell? ⟨w.heap.size, 1, none⟩ = some (.int .i64 0) := cell_on hb9 c8_1
  have c9_2 : w9.cell? ⟨w1.heap.size, 0, none⟩ = some (.int .u32 167772160) := cell_on hb9 c8_2
  have c9_3 : w9.cell? ⟨w1.heap.size, 1, none⟩ = some (.int .i64 8) := cell_on hb9 c8_3
  have c9_4 : w9.cell? ⟨w2.heap.size, 0, none⟩ = some (.int .u32 0) := cell_on hb9 c8_4
  have c9_5 : w9.cell? ⟨w2.heap.size, 1, none⟩ = some (.int .i64 0) := cell_on hb9 c8_5
  have c9_6 : w9.cell? ⟨g, 0, none⟩ = some (.int .u32 0) := cell_on hb9 c8_6
  have c9_7 : w9.cell? ⟨g, 1, none⟩ = some (.int .i64 1) := cell_on hb9 c8_7
  have c9_8 : w9.cell? ⟨g, 2, none⟩ = some (.int .u32 2147483648) := cell_on hb9 c8_8
  have c9_9 : w9.cell? ⟨g, 3, none⟩ = some (.int .i64 2) := cell_on hb9 c8_9
  have c9_10 : w9.cell? ⟨w4.heap.size, 0, none⟩ = some (.int .u32 0) := cell_on hb9 c8_10
  have c9_11 : w9.cell? ⟨w4.heap.size, 1, none⟩ = some (.int .i64 1) := cell_on hb9 c8_11
  have c9_12 : w9.cell? ⟨w4.heap.size + 1, 0, none⟩ = some (.int .u32 2147483648) := cell_on hb9 c8_12
  have c9_13 : w9.cell? ⟨w4.heap.size + 1, 1, none⟩ = some (.int .i64 1) := cell_on hb9 c8_13
  have hw9 : Below w.heap.size w w9 := by (repeat (first | assumption | exact Below.refl _ _ | refine Below.drew ?_ | refine bel_drewN ?_ _ | refine Below.setCell ?_ (by first | omega | (simp; done) | (simp; omega)) _ | refine Below.alloc ?_ (by first | omega | (simp; done) | (simp; omega)) _ | refine bel_of ?_ (by assumption)))
  clear hb9 hz8 hl8_0 hl8_1 hl8_2 hl8_3 hl8_4 hl8_5 c8_0 c8_1 c8_2 c8_3 c8_4 c8_5 c8_6 c8_7 c8_8 c8_9 c8_10 c8_11 c8_12 c8_13 hw8
  go_wp2_with (fail)
  go_ret
  exact ⟨rfl, by (repeat (first | assumption | exact Below.refl _ _ | refine Below.drew ?_ | refine bel_drewN ?_ _ | refine Below.setCell ?_ (by first | omega | (simp; done) | (simp; omega)) _ | refine Below.alloc ?_ (by first | omega | (simp; done) | (simp; omega)) _ | refine bel_of ?_ (by assumption)))⟩
end Go.Proofs.Ythmekipdhlipbaa
