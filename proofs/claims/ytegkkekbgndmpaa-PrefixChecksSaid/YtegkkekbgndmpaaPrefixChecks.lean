/-
  Proved: for any prefix, address and length, Check, Of, Run, Halves and Has of package prefix answer as the document's definition does (P2.1, P2.2, P2.4), and the document's examples hold.
  Conditions: none; the law holds for every input.
-/
import Derived.Test.YtegkkekbgndmpaaPxAwake
import Derived.Test.YtegkkekbgndmpaaPxFrame
namespace Go.Proofs.Ytegkkekbgndmpaa
open Go.ChangeShapes Go.WideShapes Go.ChangeAt Go.RowKit Go.Joins
set_option linter.unusedVariables false
set_option linter.unusedSimpArgs false

set_option maxRecDepth 100000 in
set_option maxHeartbeats 8000000 in
theorem prefixChecks_walk (a : Nat) (n : Int) (ha : a < 4294967296) (x : Nat) (hx : x < 4294967296) (m : Int) (wm : (Lit.int .i64 m).wf = true) (w : World) :
    Calls Try.prog 3 #[.agg #[.int .u32 a, .int .i64 n], .int .u32 (x : Int), .int .i64 m] w fun e w' => e = .returned (.bool true) ∧ Below w.heap.size w w' := by
  clear wm
  have hr := rH_lt a n ha
  obtain ⟨z, hz, e2⟩ : ∃ z : Nat, z < 4294967296 ∧ ((rH a n : Int) + 1) % 4294967296 = (z : Int) := ⟨(rH a n + 1) % 4294967296, Nat.mod_lt _ (by decide), by omega⟩
  have e1 : IntKind.u32.wrap ((rH a n : Int) + 1) = (z : Int) := by rw [IntKind.wrap_u32']; exact e2
  go_enter Try.func3, Try.ntmps3
  go_wp2_with (fail)
  refine (of_any x m _ hx).mono ?_
  rintro e w1 ⟨rfl, hb1⟩
  have hz1 := hb1.size
  (try simp at hz1)
  have hl1_0 : w.heap.size < w1.heap.size := by omega
  have c1_0 : w1.cell? ⟨w.heap.size, 0, none⟩ = some (.int .u32 (a : Int)) := cell_on hb1 (show (w.alloc (.cells #[.int .u32 (a : Int), .int .i64 n] 24)).cell? ⟨w.heap.size, 0, none⟩ = some (.int .u32 (a : Int)) from by simp [go_sem])
  have c1_1 : w1.cell? ⟨w.heap.size, 1, none⟩ = some (.int .i64 n) := cell_on hb1 (show (w.alloc (.cells #[.int .u32 (a : Int), .int .i64 n] 24)).cell? ⟨w.heap.size, 1, none⟩ = some (.int .i64 n) from by simp [go_sem])
  have hw1 : Below w.heap.size w w1 := by (repeat (first | assumption | exact Below.refl _ _ | refine Below.drew ?_ | refine bel_drewN ?_ _ | refine Below.setCell ?_ (by first | omega | (simp; done) | (simp; omega)) _ | refine Below.alloc ?_ (by first | omega | (simp; done) | (simp; omega)) _ | refine bel_of ?_ (by assumption)))
  clear hb1
  go_wp2_with (fail)
  refine (rof_any x m _ hx).mono ?_
  rintro e w2 ⟨rfl, hb2⟩
  have hz2 := hb2.size
  (try simp at hz2)
  have hl2_0 : w.heap.size < w2.heap.size := by omega
  have hl2_1 : w1.heap.size < w2.heap.size := by omega
  have c2_0 : w2.cell? ⟨w.heap.size, 0, none⟩ = some (.int .u32 (a : Int)) := cell_on hb2 (cell_alloc c1_0)
  have c2_1 : w2.cell? ⟨w.heap.size, 1, none⟩ = some (.int .i64 n) := cell_on hb2 (cell_alloc c1_1)
  have c2_2 : w2.cell? ⟨w1.heap.size, 0, none⟩ = some (.int .u32 (oA x m : Int)) := cell_on hb2 (show (w1.alloc (.cells #[.int .u32 (oA x m : Int), .int .i64 (oN m)] 24)).cell? ⟨w1.heap.size, 0, none⟩ = some (.int .u32 (oA x m : Int)) from by simp [go_sem])
  have c2_3 : w2.cell? ⟨w1.heap.size, 1, none⟩ = some (.int .i64 (oN m)) := cell_on hb2 (show (w1.alloc (.cells #[.int .u32 (oA x m : Int), .int .i64 (oN m)] 24)).cell? ⟨w1.heap.size, 1, none⟩ = some (.int .i64 (oN m)) from by simp [go_sem])
  have hw2 : Below w.heap.size w w2 := by (repeat (first | assumption | exact Below.refl _ _ | refine Below.drew ?_ | refine bel_drewN ?_ _ | refine Below.setCell ?_ (by first | omega | (simp; done) | (simp; omega)) _ | refine Below.alloc ?_ (by first | omega | (simp; done) | (simp; omega)) _ | refine bel_of ?_ (by assumption)))
  clear hb2 hz1 hl1_0 c1_0 c1_1 hw1
  go_wp2_with (fail)
  refine (run_any a n _ ha).mono ?_
  rintro e w3 ⟨rfl, hb3⟩
  have hz3 := hb3.size
  (try simp at hz3)
  have hl3_0 : w.heap.size < w3.heap.size := by omega
  have hl3_1 : w1.heap.size < w3.heap.size := by omega
  have hl3_2 : w2.heap.size < w3.heap.size := by omega
  have c3_0 : w3.cell? ⟨w.heap.size, 0, none⟩ = some (.int .u32 (a : Int)) := cell_on hb3 (cell_alloc c2_0)
  have c3_1 : w3.cell? ⟨w.heap.size, 1, none⟩ = some (.int .i64 n) := cell_on hb3 (cell_alloc c2_1)
  have c3_2 : w3.cell? ⟨w1.heap.size, 0, none⟩ = some (.int .u32 (oA x m : Int)) := cell_on hb3 (cell_alloc c2_2)
  have c3_3 : w3.cell? ⟨w1.heap.size, 1, none⟩ = some (.int .i64 (oN m)) := cell_on hb3 (cell_alloc c2_3)
  have c3_4 : w3.cell? ⟨w2.heap.size, 0, none⟩ = some (.int .u32 (oA x m : Int)) := cell_on hb3 (show (w2.alloc (.cells #[.int .u32 (oA x m : Int), .int .i64 (oN m)] 24)).cell? ⟨w2.heap.size, 0, none⟩ = some (.int .u32 (oA x m : Int)) from by simp [go_sem])
  have c3_5 : w3.cell? ⟨w2.heap.size, 1, none⟩ = some (.int .i64 (oN m)) := cell_on hb3 (show (w2.alloc (.cells #[.int .u32 (oA x m : Int), .int .i64 (oN m)] 24)).cell? ⟨w2.heap.size, 1, none⟩ = some (.int .i64 (oN m)) from by simp [go_sem])
  have hw3 : Below w.heap.size w w3 := by (repeat (first | assumption | exact Below.refl _ _ | refine Below.drew ?_ | refine bel_drewN ?_ _ | refine Below.setCell ?_ (by first | omega | (simp; done) | (simp; omega)) _ | refine Below.alloc ?_ (by first | omega | (simp; done) | (simp; omega)) _ | refine bel_of ?_ (by assumption)))
  clear hb3 hz2 hl2_0 hl2_1 c2_0 c2_1 c2_2 c2_3 hw2
  go_wp2_with (fail)
  refine (rrun_any a n _ ha).mono ?_
  rintro e w4 ⟨rfl, hb4⟩
  have hz4 := hb4.size
  (try simp at hz4)
  have hl4_0 : w.heap.size < w4.heap.size := by omega
  have hl4_1 : w1.heap.size < w4.heap.size := by omega
  have hl4_2 : w2.heap.size < w4.heap.size := by omega
  have hl4_3 : w3.heap.size < w4.heap.size := by omega
  have c4_0 : w4.cell? ⟨w.heap.size, 0, none⟩ = some (.int .u32 (a : Int)) := cell_on hb4 (cell_alloc c3_0)
  have c4_1 : w4.cell? ⟨w.heap.size, 1, none⟩ = some (.int .i64 n) := cell_on hb4 (cell_alloc c3_1)
  have c4_2 : w4.cell? ⟨w1.heap.size, 0, none⟩ = some (.int .u32 (oA x m : Int)) := cell_on hb4 (cell_alloc c3_2)
  have c4_3 : w4.cell? ⟨w1.heap.size, 1, none⟩ = some (.int .i64 (oN m)) := cell_on hb4 (cell_alloc c3_3)
  have c4_4 : w4.cell? ⟨w2.heap.size, 0, none⟩ = some (.int .u32 (oA x m : Int)) := cell_on hb4 (cell_alloc c3_4)
  have c4_5 : w4.cell? ⟨w2.heap.size, 1, none⟩ = some (.int .i64 (oN m)) := cell_on hb4 (cell_alloc c3_5)
  have c4_6 : w4.cell? ⟨w3.heap.size, 0, none⟩ = some (.int .u32 (rL a n : Int)) := cell_on hb4 (show (w3.alloc (.cells #[.int .u32 (rL a n : Int), .int .u32 (rH a n : Int)] 29)).cell? ⟨w3.heap.size, 0, none⟩ = some (.int .u32 (rL a n : Int)) from by simp [go_sem])
  have c4_7 : w4.cell? ⟨w3.heap.size, 1, none⟩ = some (.int .u32 (rH a n : Int)) := cell_on hb4 (show (w3.alloc (.cells #[.int .u32 (rL a n : Int), .int .u32 (rH a n : Int)] 29)).cell? ⟨w3.heap.size, 1, none⟩ = some (.int .u32 (rH a n : Int)) from by simp [go_sem])
  have hw4 : Below w.heap.size w w4 := by (repeat (first | assumption | exact Below.refl _ _ | refine Below.drew ?_ | refine bel_drewN ?_ _ | refine Below.setCell ?_ (by first | omega | (simp; done) | (simp; omega)) _ | refine Below.alloc ?_ (by first | omega | (simp; done) | (simp; omega)) _ | refine bel_of ?_ (by assumption)))
  clear hb4 hz3 hl3_0 hl3_1 hl3_2 c3_0 c3_1 c3_2 c3_3 c3_4 c3_5 hw3
  go_wp2_with (fail)
  refine (halves_any a n _ ha).mono ?_
  rintro e w5 ⟨rfl, hb5⟩
  have hz5 := hb5.size
  (try simp at hz5)
  have hl5_0 : w.heap.size < w5.heap.size := by omega
  have hl5_1 : w1.heap.size < w5.heap.size := by omega
  have hl5_2 : w2.heap.size < w5.heap.size := by omega
  have hl5_3 : w3.heap.size < w5.heap.size := by omega
  have hl5_4 : w4.heap.size < w5.heap.size := by omega
  have c5_0 : w5.cell? ⟨w.heap.size, 0, none⟩ = some (.int .u32 (a : Int)) := cell_on hb5 (cell_alloc c4_0)
  have c5_1 : w5.cell? ⟨w.heap.size, 1, none⟩ = some (.int .i64 n) := cell_on hb5 (cell_alloc c4_1)
  have c5_2 : w5.cell? ⟨w1.heap.size, 0, none⟩ = some (.int .u32 (oA x m : Int)) := cell_on hb5 (cell_alloc c4_2)
  have c5_3 : w5.cell? ⟨w1.heap.size, 1, none⟩ = some (.int .i64 (oN m)) := cell_on hb5 (cell_alloc c4_3)
  have c5_4 : w5.cell? ⟨w2.heap.size, 0, none⟩ = some (.int .u32 (oA x m : Int)) := cell_on hb5 (cell_alloc c4_4)
  have c5_5 : w5.cell? ⟨w2.heap.size, 1, none⟩ = some (.int .i64 (oN m)) := cell_on hb5 (cell_alloc c4_5)
  have c5_6 : w5.cell? ⟨w3.heap.size, 0, none⟩ = some (.int .u32 (rL a n : Int)) := cell_on hb5 (cell_alloc c4_6)
  have c5_7 : w5.cell? ⟨w3.heap.size, 1, none⟩ = some (.int .u32 (rH a n : Int)) := cell_on hb5 (cell_alloc c4_7)
  have c5_8 : w5.cell? ⟨w4.heap.size, 0, none⟩ = some (.int .u32 (rL a n : Int)) := cell_on hb5 (show (w4.alloc (.cells #[.int .u32 (rL a n : Int), .int .u32 (rH a n : Int)] 29)).cell? ⟨w4.heap.size, 0, none⟩ = some (.int .u32 (rL a n : Int)) from by simp [go_sem])
  have c5_9 : w5.cell? ⟨w4.heap.size, 1, none⟩ = some (.int .u32 (rH a n : Int)) := cell_on hb5 (show (w4.alloc (.cells #[.int .u32 (rL a n : Int), .int .u32 (rH a n : Int)] 29)).cell? ⟨w4.heap.size, 1, none⟩ = some (.int .u32 (rH a n : Int)) from by simp [go_sem])
  have hw5 : Below w.heap.size w w5 := by (repeat (first | assumption | exact Below.refl _ _ | refine Below.drew ?_ | refine bel_drewN ?_ _ | refine Below.setCell ?_ (by first | omega | (simp; done) | (simp; omega)) _ | refine Below.alloc ?_ (by first | omega | (simp; done) | (simp; omega)) _ | refine bel_of ?_ (by assumption)))
  clear hb5 hz4 hl4_0 hl4_1 hl4_2 hl4_3 c4_0 c4_1 c4_2 c4_3 c4_4 c4_5 c4_6 c4_7 hw4
  go_wp2_with (fail)
  refine (rhalves_any a n _ ha).mono ?_
  rintro e w6 ⟨rfl, hb6⟩
  have hz6 := hb6.size
  (try simp at hz6)
  have hl6_0 : w.heap.size < w6.heap.size := by omega
  have hl6_1 : w1.heap.size < w6.heap.size := by omega
  have hl6_2 : w2.heap.size < w6.heap.size := by omega
  have hl6_3 : w3.heap.size < w6.heap.size := by omega
  have hl6_4 : w4.heap.size < w6.heap.size := by omega
  have hl6_5 : w5.heap.size < w6.heap.size := by omega
  have hl6_6 : w5.heap.size + 1 < w6.heap.size := by omega
  have c6_0 : w6.cell? ⟨w.heap.size, 0, none⟩ = some (.int .u32 (a : Int)) := cell_on hb6 (cell_alloc (cell_alloc c5_0))
  have c6_1 : w6.cell? ⟨w.heap.size, 1, none⟩ = some (.int .i64 n) := cell_on hb6 (cell_alloc (cell_alloc c5_1))
  have c6_2 : w6.cell? ⟨w1.heap.size, 0, none⟩ = some (.int .u32 (oA x m : Int)) := cell_on hb6 (cell_alloc (cell_alloc c5_2))
  have c6_3 : w6.cell? ⟨w1.heap.size, 1, none⟩ = some (.int .i64 (oN m)) := cell_on hb6 (cell_alloc (cell_alloc c5_3))
  have c6_4 : w6.cell? ⟨w2.heap.size, 0, none⟩ = some (.int .u32 (oA x m : Int)) := cell_on hb6 (cell_alloc (cell_alloc c5_4))
  have c6_5 : w6.cell? ⟨w2.heap.size, 1, none⟩ = some (.int .i64 (oN m)) := cell_on hb6 (cell_alloc (cell_alloc c5_5))
  have c6_6 : w6.cell? ⟨w3.heap.size, 0, none⟩ = some (.int .u32 (rL a n : Int)) := cell_on hb6 (cell_alloc (cell_alloc c5_6))
  have c6_7 : w6.cell? ⟨w3.heap.size, 1, none⟩ = some (.int .u32 (rH a n : Int)) := cell_on hb6 (cell_alloc (cell_alloc c5_7))
  have c6_8 : w6.cell? ⟨w4.heap.size, 0, none⟩ = some (.int .u32 (rL a n : Int)) := cell_on hb6 (cell_alloc (cell_alloc c5_8))
  have c6_9 : w6.cell? ⟨w4.heap.size, 1, none⟩ = some (.int .u32 (rH a n : Int)) := cell_on hb6 (cell_alloc (cell_alloc c5_9))
  have c6_10 : w6.cell? ⟨w5.heap.size, 0, none⟩ = some (.int .u32 (hA a n : Int)) := cell_on hb6 (show ((w5.alloc (.cells #[.int .u32 (hA a n : Int), .int .i64 (hN a n)] 24)).alloc (.cells #[.int .u32 (hB a n : Int), .int .i64 (hN a n)] 24)).cell? ⟨w5.heap.size, 0, none⟩ = some (.int .u32 (hA a n : Int)) from by simp [go_sem])
  have c6_11 : w6.cell? ⟨w5.heap.size, 1, none⟩ = some (.int .i64 (hN a n)) := cell_on hb6 (show ((w5.alloc (.cells #[.int .u32 (hA a n : Int), .int .i64 (hN a n)] 24)).alloc (.cells #[.int .u32 (hB a n : Int), .int .i64 (hN a n)] 24)).cell? ⟨w5.heap.size, 1, none⟩ = some (.int .i64 (hN a n)) from by simp [go_sem])
  have c6_12 : w6.cell? ⟨w5.heap.size + 1, 0, none⟩ = some (.int .u32 (hB a n : Int)) := cell_on hb6 (show ((w5.alloc (.cells #[.int .u32 (hA a n : Int), .int .i64 (hN a n)] 24)).alloc (.cells #[.int .u32 (hB a n : Int), .int .i64 (hN a n)] 24)).cell? ⟨w5.heap.size + 1, 0, none⟩ = some (.int .u32 (hB a n : Int)) from by simp [go_sem])
  have c6_13 : w6.cell? ⟨w5.heap.size + 1, 1, none⟩ = some (.int .i64 (hN a n)) := cell_on hb6 (show ((w5.alloc (.cells #[.int .u32 (hA a n : Int), .int .i64 (hN a n)] 24)).alloc (.cells #[.int .u32 (hB a n : Int), .int .i64 (hN a n)] 24)).cell? ⟨w5.heap.size + 1, 1, none⟩ = some (.int .i64 (hN a n)) from by simp [go_sem])
  have hw6 : Below w.heap.size w w6 := by (repeat (first | assumption | exact Below.refl _ _ | refine Below.drew ?_ | refine bel_drewN ?_ _ | refine Below.setCell ?_ (by first | omega | (simp; done) | (simp; omega)) _ | refine Below.alloc ?_ (by first | omega | (simp; done) | (simp; omega)) _ | refine bel_of ?_ (by assumption)))
  clear hb6 hz5 hl5_0 hl5_1 hl5_2 hl5_3 hl5_4 c5_0 c5_1 c5_2 c5_3 c5_4 c5_5 c5_6 c5_7 c5_8 c5_9 hw5
  go_wp2_with (fail)
  have kne : Nonempty (Kin ((w6.alloc (.cells #[.int .u32 (hA a n : Int), .int .i64 (hN a n)] 24)).alloc (.cells #[.int .u32 (hB a n : Int), .int .i64 (hN a n)] 24))) := ⟨⟨_, Below.refl _ _⟩⟩
  have kc0 : ∀ y : Kin ((w6.alloc (.cells #[.int .u32 (hA a n : Int), .int .i64 (hN a n)] 24)).alloc (.cells #[.int .u32 (hB a n : Int), .int .i64 (hN a n)] 24)), y.val.cell? ⟨w.heap.size, 0, none⟩ = some (.int .u32 (a : Int)) := fun y => cell_on y.is (cell_alloc (cell_alloc c6_0))
  have kc1 : ∀ y : Kin ((w6.alloc (.cells #[.int .u32 (hA a n : Int), .int .i64 (hN a n)] 24)).alloc (.cells #[.int .u32 (hB a n : Int), .int .i64 (hN a n)] 24)), y.val.cell? ⟨w.heap.size, 1, none⟩ = some (.int .i64 n) := fun y => cell_on y.is (cell_alloc (cell_alloc c6_1))
  have kc2 : ∀ y : Kin ((w6.alloc (.cells #[.int .u32 (hA a n : Int), .int .i64 (hN a n)] 24)).alloc (.cells #[.int .u32 (hB a n : Int), .int .i64 (hN a n)] 24)), y.val.cell? ⟨w1.heap.size, 0, none⟩ = some (.int .u32 (oA x m : Int)) := fun y => cell_on y.is (cell_alloc (cell_alloc c6_2))
  have kc3 : ∀ y : Kin ((w6.alloc (.cells #[.int .u32 (hA a n : Int), .int .i64 (hN a n)] 24)).alloc (.cells #[.int .u32 (hB a n : Int), .int .i64 (hN a n)] 24)), y.val.cell? ⟨w1.heap.size, 1, none⟩ = some (.int .i64 (oN m)) := fun y => cell_on y.is (cell_alloc (cell_alloc c6_3))
  have kc4 : ∀ y : Kin ((w6.alloc (.cells #[.int .u32 (hA a n : Int), .int .i64 (hN a n)] 24)).alloc (.cells #[.int .u32 (hB a n : Int), .int .i64 (hN a n)] 24)), y.val.cell? ⟨w2.heap.size, 0, none⟩ = some (.int .u32 (oA x m : Int)) := fun y => cell_on y.is (cell_alloc (cell_alloc c6_4))
  have kc5 : ∀ y : Kin ((w6.alloc (.cells #[.int .u32 (hA a n : Int), .int .i64 (hN a n)] 24)).alloc (.cells #[.int .u32 (hB a n : Int), .int .i64 (hN a n)] 24)), y.val.cell? ⟨w2.heap.size, 1, none⟩ = some (.int .i64 (oN m)) := fun y => cell_on y.is (cell_alloc (cell_alloc c6_5))
  have kc6 : ∀ y : Kin ((w6.alloc (.cells #[.int .u32 (hA a n : Int), .int .i64 (hN a n)] 24)).alloc (.cells #[.int .u32 (hB a n : Int), .int .i64 (hN a n)] 24)), y.val.cell? ⟨w3.heap.size, 0, none⟩ = some (.int .u32 (rL a n : Int)) := fun y => cell_on y.is (cell_alloc (cell_alloc c6_6))
  have kc7 : ∀ y : Kin ((w6.alloc (.cells #[.int .u32 (hA a n : Int), .int .i64 (hN a n)] 24)).alloc (.cells #[.int .u32 (hB a n : Int), .int .i64 (hN a n)] 24)), y.val.cell? ⟨w3.heap.size, 1, none⟩ = some (.int .u32 (rH a n : Int)) := fun y => cell_on y.is (cell_alloc (cell_alloc c6_7))
  have kc8 : ∀ y : Kin ((w6.alloc (.cells #[.int .u32 (hA a n : Int), .int .i64 (hN a n)] 24)).alloc (.cells #[.int .u32 (hB a n : Int), .int .i64 (hN a n)] 24)), y.val.cell? ⟨w4.heap.size, 0, none⟩ = some (.int .u32 (rL a n : Int)) := fun y => cell_on y.is (cell_alloc (cell_alloc c6_8))
  have kc9 : ∀ y : Kin ((w6.alloc (.cells #[.int .u32 (hA a n : Int), .int .i64 (hN a n)] 24)).alloc (.cells #[.int .u32 (hB a n : Int), .int .i64 (hN a n)] 24)), y.val.cell? ⟨w4.heap.size, 1, none⟩ = some (.int .u32 (rH a n : Int)) := fun y => cell_on y.is (cell_alloc (cell_alloc c6_9))
  have kc10 : ∀ y : Kin ((w6.alloc (.cells #[.int .u32 (hA a n : Int), .int .i64 (hN a n)] 24)).alloc (.cells #[.int .u32 (hB a n : Int), .int .i64 (hN a n)] 24)), y.val.cell? ⟨w5.heap.size, 0, none⟩ = some (.int .u32 (hA a n : Int)) := fun y => cell_on y.is (cell_alloc (cell_alloc c6_10))
  have kc11 : ∀ y : Kin ((w6.alloc (.cells #[.int .u32 (hA a n : Int), .int .i64 (hN a n)] 24)).alloc (.cells #[.int .u32 (hB a n : Int), .int .i64 (hN a n)] 24)), y.val.cell? ⟨w5.heap.size, 1, none⟩ = some (.int .i64 (hN a n)) := fun y => cell_on y.is (cell_alloc (cell_alloc c6_11))
  have kc12 : ∀ y : Kin ((w6.alloc (.cells #[.int .u32 (hA a n : Int), .int .i64 (hN a n)] 24)).alloc (.cells #[.int .u32 (hB a n : Int), .int .i64 (hN a n)] 24)), y.val.cell? ⟨w5.heap.size + 1, 0, none⟩ = some (.int .u32 (hB a n : Int)) := fun y => cell_on y.is (cell_alloc (cell_alloc c6_12))
  have kc13 : ∀ y : Kin ((w6.alloc (.cells #[.int .u32 (hA a n : Int), .int .i64 (hN a n)] 24)).alloc (.cells #[.int .u32 (hB a n : Int), .int .i64 (hN a n)] 24)), y.val.cell? ⟨w5.heap.size + 1, 1, none⟩ = some (.int .i64 (hN a n)) := fun y => cell_on y.is (cell_alloc (cell_alloc c6_13))
  have kc14 : ∀ y : Kin ((w6.alloc (.cells #[.int .u32 (hA a n : Int), .int .i64 (hN a n)] 24)).alloc (.cells #[.int .u32 (hB a n : Int), .int .i64 (hN a n)] 24)), y.val.cell? ⟨w6.heap.size, 0, none⟩ = some (.int .u32 (hA a n : Int)) := fun y => cell_on y.is (show ((w6.alloc (.cells #[.int .u32 (hA a n : Int), .int .i64 (hN a n)] 24)).alloc (.cells #[.int .u32 (hB a n : Int), .int .i64 (hN a n)] 24)).cell? ⟨w6.heap.size, 0, none⟩ = some (.int .u32 (hA a n : Int)) from by simp [go_sem])
  have kc15 : ∀ y : Kin ((w6.alloc (.cells #[.int .u32 (hA a n : Int), .int .i64 (hN a n)] 24)).alloc (.cells #[.int .u32 (hB a n : Int), .int .i64 (hN a n)] 24)), y.val.cell? ⟨w6.heap.size, 1, none⟩ = some (.int .i64 (hN a n)) := fun y => cell_on y.is (show ((w6.alloc (.cells #[.int .u32 (hA a n : Int), .int .i64 (hN a n)] 24)).alloc (.cells #[.int .u32 (hB a n : Int), .int .i64 (hN a n)] 24)).cell? ⟨w6.heap.size, 1, none⟩ = some (.int .i64 (hN a n)) from by simp [go_sem])
  have kc16 : ∀ y : Kin ((w6.alloc (.cells #[.int .u32 (hA a n : Int), .int .i64 (hN a n)] 24)).alloc (.cells #[.int .u32 (hB a n : Int), .int .i64 (hN a n)] 24)), y.val.cell? ⟨w6.heap.size + 1, 0, none⟩ = some (.int .u32 (hB a n : Int)) := fun y => cell_on y.is (show ((w6.alloc (.cells #[.int .u32 (hA a n : Int), .int .i64 (hN a n)] 24)).alloc (.cells #[.int .u32 (hB a n : Int), .int .i64 (hN a n)] 24)).cell? ⟨w6.heap.size + 1, 0, none⟩ = some (.int .u32 (hB a n : Int)) from by simp [go_sem])
  have kc17 : ∀ y : Kin ((w6.alloc (.cells #[.int .u32 (hA a n : Int), .int .i64 (hN a n)] 24)).alloc (.cells #[.int .u32 (hB a n : Int), .int .i64 (hN a n)] 24)), y.val.cell? ⟨w6.heap.size + 1, 1, none⟩ = some (.int .i64 (hN a n)) := fun y => cell_on y.is (show ((w6.alloc (.cells #[.int .u32 (hA a n : Int), .int .i64 (hN a n)] 24)).alloc (.cells #[.int .u32 (hB a n : Int), .int .i64 (hN a n)] 24)).cell? ⟨w6.heap.size + 1, 1, none⟩ = some (.int .i64 (hN a n)) from by simp [go_sem])
  refine wp_region_kin ((w6.alloc (.cells #[.int .u32 (hA a n : Int), .int .i64 (hN a n)] 24)).alloc (.cells #[.int .u32 (hB a n : Int), .int .i64 (hN a n)] 24)) (Below.refl _ _) (by kernel_rfl) (by kernel_rfl) ?_
  repeat (go_big_quiet_step (first | (go_at_call 15; refine kin_call (has_any _ _ _ _ ?_ ?_) <;> assumption) | (go_at_call 16; refine kin_call (rhas_any _ _ _ _ ?_ ?_) <;> assumption)))
  refine wpQuiet_nil ?_
  rintro w7 ⟨⟨xq, hxq⟩, hyq⟩
  have hb7 : Below ((w6.alloc (.cells #[.int .u32 (hA a n : Int), .int .i64 (hN a n)] 24)).alloc (.cells #[.int .u32 (hB a n : Int), .int .i64 (hN a n)] 24)).heap.size ((w6.alloc (.cells #[.int .u32 (hA a n : Int), .int .i64 (hN a n)] 24)).alloc (.cells #[.int .u32 (hB a n : Int), .int .i64 (hN a n)] 24)) w7 := by rw [hyq]; exact hxq
  clear hyq hxq xq
  clear kne kc0 kc1 kc2 kc3 kc4 kc5 kc6 kc7 kc8 kc9 kc10 kc11 kc12 kc13 kc14 kc15 kc16 kc17
  have hz7 := hb7.size
  (try simp at hz7)
  have hl7_0 : w.heap.size < w7.heap.size := by omega
  have hl7_1 : w1.heap.size < w7.heap.size := by omega
  have hl7_2 : w2.heap.size < w7.heap.size := by omega
  have hl7_3 : w3.heap.size < w7.heap.size := by omega
  have hl7_4 : w4.heap.size < w7.heap.size := by omega
  have hl7_5 : w5.heap.size < w7.heap.size := by omega
  have hl7_6 : w5.heap.size + 1 < w7.heap.size := by omega
  have hl7_7 : w6.heap.size < w7.heap.size := by omega
  have hl7_8 : w6.heap.size + 1 < w7.heap.size := by omega
  have c7_0 : w7.cell? ⟨w.heap.size, 0, none⟩ = some (.int .u32 (a : Int)) := cell_on hb7 (cell_alloc (cell_alloc c6_0))
  have c7_1 : w7.cell? ⟨w.heap.size, 1, none⟩ = some (.int .i64 n) := cell_on hb7 (cell_alloc (cell_alloc c6_1))
  have c7_2 : w7.cell? ⟨w1.heap.size, 0, none⟩ = some (.int .u32 (oA x m : Int)) := cell_on hb7 (cell_alloc (cell_alloc c6_2))
  have c7_3 : w7.cell? ⟨w1.heap.size, 1, none⟩ = some (.int .i64 (oN m)) := cell_on hb7 (cell_alloc (cell_alloc c6_3))
  have c7_4 : w7.cell? ⟨w2.heap.size, 0, none⟩ = some (.int .u32 (oA x m : Int)) := cell_on hb7 (cell_alloc (cell_alloc c6_4))
  have c7_5 : w7.cell? ⟨w2.heap.size, 1, none⟩ = some (.int .i64 (oN m)) := cell_on hb7 (cell_alloc (cell_alloc c6_5))
  have c7_6 : w7.cell? ⟨w3.heap.size, 0, none⟩ = some (.int .u32 (rL a n : Int)) := cell_on hb7 (cell_alloc (cell_alloc c6_6))
  have c7_7 : w7.cell? ⟨w3.heap.size, 1, none⟩ = some (.int .u32 (rH a n : Int)) := cell_on hb7 (cell_alloc (cell_alloc c6_7))
  have c7_8 : w7.cell? ⟨w4.heap.size, 0, none⟩ = some (.int .u32 (rL a n : Int)) := cell_on hb7 (cell_alloc (cell_alloc c6_8))
  have c7_9 : w7.cell? ⟨w4.heap.size, 1, none⟩ = some (.int .u32 (rH a n : Int)) := cell_on hb7 (cell_alloc (cell_alloc c6_9))
  have c7_10 : w7.cell? ⟨w5.heap.size, 0, none⟩ = some (.int .u32 (hA a n : Int)) := cell_on hb7 (cell_alloc (cell_alloc c6_10))
  have c7_11 : w7.cell? ⟨w5.heap.size, 1, none⟩ = some (.int .i64 (hN a n)) := cell_on hb7 (cell_alloc (cell_alloc c6_11))
  have c7_12 : w7.cell? ⟨w5.heap.size + 1, 0, none⟩ = some (.int .u32 (hB a n : Int)) := cell_on hb7 (cell_alloc (cell_alloc c6_12))
  have c7_13 : w7.cell? ⟨w5.heap.size + 1, 1, none⟩ = some (.int .i64 (hN a n)) := cell_on hb7 (cell_alloc (cell_alloc c6_13))
  have c7_14 : w7.cell? ⟨w6.heap.size, 0, none⟩ = some (.int .u32 (hA a n : Int)) := cell_on hb7 (show ((w6.alloc (.cells #[.int .u32 (hA a n : Int), .int .i64 (hN a n)] 24)).alloc (.cells #[.int .u32 (hB a n : Int), .int .i64 (hN a n)] 24)).cell? ⟨w6.heap.size, 0, none⟩ = some (.int .u32 (hA a n : Int)) from by simp [go_sem])
  have c7_15 : w7.cell? ⟨w6.heap.size, 1, none⟩ = some (.int .i64 (hN a n)) := cell_on hb7 (show ((w6.alloc (.cells #[.int .u32 (hA a n : Int), .int .i64 (hN a n)] 24)).alloc (.cells #[.int .u32 (hB a n : Int), .int .i64 (hN a n)] 24)).cell? ⟨w6.heap.size, 1, none⟩ = some (.int .i64 (hN a n)) from by simp [go_sem])
  have c7_16 : w7.cell? ⟨w6.heap.size + 1, 0, none⟩ = some (.int .u32 (hB a n : Int)) := cell_on hb7 (show ((w6.alloc (.cells #[.int .u32 (hA a n : Int), .int .i64 (hN a n)] 24)).alloc (.cells #[.int .u32 (hB a n : Int), .int .i64 (hN a n)] 24)).cell? ⟨w6.heap.size + 1, 0, none⟩ = some (.int .u32 (hB a n : Int)) from by simp [go_sem])
  have c7_17 : w7.cell? ⟨w6.heap.size + 1, 1, none⟩ = some (.int .i64 (hN a n)) := cell_on hb7 (show ((w6.alloc (.cells #[.int .u32 (hA a n : Int), .int .i64 (hN a n)] 24)).alloc (.cells #[.int .u32 (hB a n : Int), .int .i64 (hN a n)] 24)).cell? ⟨w6.heap.size + 1, 1, none⟩ = some (.int .i64 (hN a n)) from by simp [go_sem])
  have hw7 : Below w.heap.size w w7 := by (repeat (first | assumption | exact Below.refl _ _ | refine Below.drew ?_ | refine bel_drewN ?_ _ | refine Below.setCell ?_ (by first | omega | (simp; done) | (simp; omega)) _ | refine Below.alloc ?_ (by first | omega | (simp; done) | (simp; omega)) _ | refine bel_of ?_ (by assumption)))
  clear hb7 hz6 hl6_0 hl6_1 hl6_2 hl6_3 hl6_4 hl6_5 hl6_6 c6_0 c6_1 c6_2 c6_3 c6_4 c6_5 c6_6 c6_7 c6_8 c6_9 c6_10 c6_11 c6_12 c6_13 hw6
  go_wp2_with (fail)
  have kne : Nonempty (Kin w7) := ⟨⟨_, Below.refl _ _⟩⟩
  have kc0 : ∀ y : Kin w7, y.val.cell? ⟨w.heap.size, 0, none⟩ = some (.int .u32 (a : Int)) := fun y => cell_on y.is c7_0
  have kc1 : ∀ y : Kin w7, y.val.cell? ⟨w.heap.size, 1, none⟩ = some (.int .i64 n) := fun y => cell_on y.is c7_1
  have kc2 : ∀ y : Kin w7, y.val.cell? ⟨w1.heap.size, 0, none⟩ = some (.int .u32 (oA x m : Int)) := fun y => cell_on y.is c7_2
  have kc3 : ∀ y : Kin w7, y.val.cell? ⟨w1.heap.size, 1, none⟩ = some (.int .i64 (oN m)) := fun y => cell_on y.is c7_3
  have kc4 : ∀ y : Kin w7, y.val.cell? ⟨w2.heap.size, 0, none⟩ = some (.int .u32 (oA x m : Int)) := fun y => cell_on y.is c7_4
  have kc5 : ∀ y : Kin w7, y.val.cell? ⟨w2.heap.size, 1, none⟩ = some (.int .i64 (oN m)) := fun y => cell_on y.is c7_5
  have kc6 : ∀ y : Kin w7, y.val.cell? ⟨w3.heap.size, 0, none⟩ = some (.int .u32 (rL a n : Int)) := fun y => cell_on y.is c7_6
  have kc7 : ∀ y : Kin w7, y.val.cell? ⟨w3.heap.size, 1, none⟩ = some (.int .u32 (rH a n : Int)) := fun y => cell_on y.is c7_7
  have kc8 : ∀ y : Kin w7, y.val.cell? ⟨w4.heap.size, 0, none⟩ = some (.int .u32 (rL a n : Int)) := fun y => cell_on y.is c7_8
  have kc9 : ∀ y : Kin w7, y.val.cell? ⟨w4.heap.size, 1, none⟩ = some (.int .u32 (rH a n : Int)) := fun y => cell_on y.is c7_9
  have kc10 : ∀ y : Kin w7, y.val.cell? ⟨w5.heap.size, 0, none⟩ = some (.int .u32 (hA a n : Int)) := fun y => cell_on y.is c7_10
  have kc11 : ∀ y : Kin w7, y.val.cell? ⟨w5.heap.size, 1, none⟩ = some (.int .i64 (hN a n)) := fun y => cell_on y.is c7_11
  have kc12 : ∀ y : Kin w7, y.val.cell? ⟨w5.heap.size + 1, 0, none⟩ = some (.int .u32 (hB a n : Int)) := fun y => cell_on y.is c7_12
  have kc13 : ∀ y : Kin w7, y.val.cell? ⟨w5.heap.size + 1, 1, none⟩ = some (.int .i64 (hN a n)) := fun y => cell_on y.is c7_13
  have kc14 : ∀ y : Kin w7, y.val.cell? ⟨w6.heap.size, 0, none⟩ = some (.int .u32 (hA a n : Int)) := fun y => cell_on y.is c7_14
  have kc15 : ∀ y : Kin w7, y.val.cell? ⟨w6.heap.size, 1, none⟩ = some (.int .i64 (hN a n)) := fun y => cell_on y.is c7_15
  have kc16 : ∀ y : Kin w7, y.val.cell? ⟨w6.heap.size + 1, 0, none⟩ = some (.int .u32 (hB a n : Int)) := fun y => cell_on y.is c7_16
  have kc17 : ∀ y : Kin w7, y.val.cell? ⟨w6.heap.size + 1, 1, none⟩ = some (.int .i64 (hN a n)) := fun y => cell_on y.is c7_17
  refine wp_region_kin w7 (Below.refl _ _) (by kernel_rfl) (by kernel_rfl) ?_
  repeat (go_big_quiet_step (first | (go_at_call 17; exact kin_call (awake_any _)) | (go_at_call 18; refine kin_call (check_any _ _ _ ?_) <;> assumption) | (go_at_call 19; refine kin_call (rcheck_any _ _ _ ?_) <;> assumption)))
  refine wpQuiet_nil ?_
  rintro w8 ⟨⟨xq, hxq⟩, hyq⟩
  have hb8 : Below w7.heap.size w7 w8 := by rw [hyq]; exact hxq
  clear hyq hxq xq
  clear kne kc0 kc1 kc2 kc3 kc4 kc5 kc6 kc7 kc8 kc9 kc10 kc11 kc12 kc13 kc14 kc15 kc16 kc17
  have hz8 := hb8.size
  (try simp at hz8)
  have hl8_0 : w.heap.size < w8.heap.size := by omega
  have hl8_1 : w1.heap.size < w8.heap.size := by omega
  have hl8_2 : w2.heap.size < w8.heap.size := by omega
  have hl8_3 : w3.heap.size < w8.heap.size := by omega
  have hl8_4 : w4.heap.size < w8.heap.size := by omega
  have hl8_5 : w5.heap.size < w8.heap.size := by omega
  have hl8_6 : w5.heap.size + 1 < w8.heap.size := by omega
  have hl8_7 : w6.heap.size < w8.heap.size := by omega
  have hl8_8 : w6.heap.size + 1 < w8.heap.size := by omega
  have c8_0 : w8.cell? ⟨w.heap.size, 0, none⟩ = some (.int .u32 (a : Int)) := cell_on hb8 c7_0
  have c8_1 : w8.cell? ⟨w.heap.size, 1, none⟩ = some (.int .i64 n) := cell_on hb8 c7_1
  have c8_2 : w8.cell? ⟨w1.heap.size, 0, none⟩ = some (.int .u32 (oA x m : Int)) := cell_on hb8 c7_2
  have c8_3 : w8.cell? ⟨w1.heap.size, 1, none⟩ = some (.int .i64 (oN m)) := cell_on hb8 c7_3
  have c8_4 : w8.cell? ⟨w2.heap.size, 0, none⟩ = some (.int .u32 (oA x m : Int)) := cell_on hb8 c7_4
  have c8_5 : w8.cell? ⟨w2.heap.size, 1, none⟩ = some (.int .i64 (oN m)) := cell_on hb8 c7_5
  have c8_6 : w8.cell? ⟨w3.heap.size, 0, none⟩ = some (.int .u32 (rL a n : Int)) := cell_on hb8 c7_6
  have c8_7 : w8.cell? ⟨w3.heap.size, 1, none⟩ = some (.int .u32 (rH a n : Int)) := cell_on hb8 c7_7
  have c8_8 : w8.cell? ⟨w4.heap.size, 0, none⟩ = some (.int .u32 (rL a n : Int)) := cell_on hb8 c7_8
  have c8_9 : w8.cell? ⟨w4.heap.size, 1, none⟩ = some (.int .u32 (rH a n : Int)) := cell_on hb8 c7_9
  have c8_10 : w8.cell? ⟨w5.heap.size, 0, none⟩ = some (.int .u32 (hA a n : Int)) := cell_on hb8 c7_10
  have c8_11 : w8.cell? ⟨w5.heap.size, 1, none⟩ = some (.int .i64 (hN a n)) := cell_on hb8 c7_11
  have c8_12 : w8.cell? ⟨w5.heap.size + 1, 0, none⟩ = some (.int .u32 (hB a n : Int)) := cell_on hb8 c7_12
  have c8_13 : w8.cell? ⟨w5.heap.size + 1, 1, none⟩ = some (.int .i64 (hN a n)) := cell_on hb8 c7_13
  have c8_14 : w8.cell? ⟨w6.heap.size, 0, none⟩ = some (.int .u32 (hA a n : Int)) := cell_on hb8 c7_14
  have c8_15 : w8.cell? ⟨w6.heap.size, 1, none⟩ = some (.int .i64 (hN a n)) := cell_on hb8 c7_15
  have c8_16 : w8.cell? ⟨w6.heap.size + 1, 0, none⟩ = some (.int .u32 (hB a n : Int)) := cell_on hb8 c7_16
  have c8_17 : w8.cell? ⟨w6.heap.size + 1, 1, none⟩ = some (.int .i64 (hN a n)) := cell_on hb8 c7_17
  have hw8 : Below w.heap.size w w8 := by (repeat (first | assumption | exact Below.refl _ _ | refine Below.drew ?_ | refine bel_drewN ?_ _ | refine Below.setCell ?_ (by first | omega | (simp; done) | (simp; omega)) _ | refine Below.alloc ?_ (by first | omega | (simp; done) | (simp; omega)) _ | refine bel_of ?_ (by assumption)))
  clear hb8 hz7 hl7_0 hl7_1 hl7_2 hl7_3 hl7_4 hl7_5 hl7_6 hl7_7 hl7_8 c7_0 c7_1 c7_2 c7_3 c7_4 c7_5 c7_6 c7_7 c7_8 c7_9 c7_10 c7_11 c7_12 c7_13 c7_14 c7_15 c7_16 c7_17 hw7
  go_wp2_with (fail)
  go_ret
  exact ⟨ret_same (by simp), by (repeat (first | assumption | exact Below.refl _ _ | refine Below.drew ?_ | refine bel_drewN ?_ _ | refine Below.setCell ?_ (by first | omega | (simp; done) | (simp; omega)) _ | refine Below.alloc ?_ (by first | omega | (simp; done) | (simp; omega)) _ | refine bel_of ?_ (by assumption)))⟩

set_option maxRecDepth 100000 in
theorem prefixChecks_lifted (os : Os) (started : os.Started) (H : Type) (enc : TypeId × Value → H) :
    ReturnsInHanded {} Try.checked os 3 .any (Rows.prefixChecksSpec.pre6 enc Try.prog Try.f3 Rows.prefixChecksRow.domain false) (Rows.prefixChecksSpec.post enc Try.prog Try.f3 false true false false) := by
  refine returnsInHanded_of_change (C := Try.checked) own started (by kernel_rfl) Try.func3
    (ChangeSpec.witness6 (enc := enc) (C := Try.checked) false ⟨#[], #[.agg #[.int .u32 0, .int .i64 0], .int .u32 0, .int .i64 0], []⟩ 8 (by kernel_rfl) (by kernel_rfl) (by kernel_rfl) (by kernel_rfl)) ?_
  intro W base args ds gs before hval0 hW hcnd _
  have hval : ∀ (j : Nat) t v, Try.f3.params[j]? = some t → args[j]? = some v → Value.okWide Try.prog W .any base t v := hval0
  have hW' := hW
  obtain ⟨p, q, hA0, hV, rfl, hfz, hnd⟩ := hW
  have hA : DataW.TrodAll enc Try.prog W 0 (fun _ => true) true Try.f3.params.toList args.toList ds p := hA0
  rw [Try.params3] at hA hval
  obtain ⟨v0, vs0, d0, ds0, p0, q0, hargs, rfl, rfl, h0, r0⟩ := trodAll_cons hA
  obtain ⟨v1, vs1, d1, ds1, p1, q1, rfl, rfl, rfl, h1, r1⟩ := trodAll_cons r0
  obtain ⟨v2, vs2, d2, ds2, p2, q2, rfl, rfl, rfl, h2, r2⟩ := trodAll_cons r1
  obtain ⟨rfl, rfl, rfl⟩ := trodAll_nil r2
  obtain rfl : args = #[v0, v1, v2] := by cases args; simp_all
  obtain ⟨rfl, rfl⟩ := trodVars_none hV
  obtain ⟨a0, n0, rfl, rfl, rfl, w0, x0⟩ := open_px (hval 0 24 v0 rfl rfl) h0
  obtain ⟨b0, rfl, t0⟩ := wf_u32 w0
  obtain ⟨a1, rfl, rfl, rfl, w1⟩ := open_int Try.underlying22 (hval 1 22 v1 rfl rfl) h1
  obtain ⟨b1, rfl, t1⟩ := wf_u32 w1
  obtain ⟨a2, rfl, rfl, rfl, w2⟩ := open_int Try.underlying3 (hval 2 3 v2 rfl rfl) h2
  clear hA0 hval0
  simp only [List.append_nil] at hW'
  refine (prefixChecks_walk b0 n0 t0 b1 t1 a2 w2 W).mono fun e W' ⟨he, bel⟩ => ?_
  subst he
  exact ⟨_, rfl, _, _, _, [], _, [], hW', trodAll_mk1 (shut_bool Try.underlying4 _), (trodAll_cons_mk (shut_px w0 x0) (trodAll_cons_mk (shut_int Try.underlying22 w1) (trodAll_cons_mk (shut_int Try.underlying3 w2) trodAll_mk0))), rfl, bel.frame _, fun h => by cases h⟩

/-- The given statement. -/
theorem prefixChecks_holds : Rows.PrefixChecksSaid :=
  OpenClaim.holds_of_wide 3 Try.f3 rfl rfl rfl rfl rfl rfl rfl ⟨rfl, rfl, rfl, rfl, rfl⟩ rfl rfl rfl rfl rfl (by kernel_rfl) Try.func3 (by kernel_rfl)
    (of_decide_eq_true (by kernel_rfl)) (by unfold Func.isWrapper; first | (rw [if_pos (by decide +kernel)]; kernel_rfl) | (rw [if_neg (by decide +kernel)]; exact ⟨rfl, rfl⟩))
    (fun os started H enc _ => prefixChecks_lifted os started H enc)
#print axioms prefixChecks_holds
end Go.Proofs.Ytegkkekbgndmpaa
