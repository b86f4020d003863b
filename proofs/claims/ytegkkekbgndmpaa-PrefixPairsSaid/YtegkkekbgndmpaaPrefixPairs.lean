/-
  Proved: for any two prefixes, both ways round, Common, Within and Compare of package prefix answer as the document's definition does (P2.3, P2.5), and the document's examples hold.
  Conditions: none; the law holds for every input.
-/
import Derived.Test.YtegkkekbgndmpaaPxAwake
import Derived.Test.YtegkkekbgndmpaaPxFrame
namespace Go.Proofs.Ytegkkekbgndmpaa
open Go.ChangeShapes Go.WideShapes Go.ChangeAt Go.RowKit Go.Joins
set_option linter.unusedVariables false
set_option linter.unusedSimpArgs false

theorem cmp_self (a : Nat) (n : Int) : orI (cmpI (a : Int) a) (cmpI n n) = 0 := by simp [orI, cmpI]
set_option maxRecDepth 100000 in
set_option maxHeartbeats 8000000 in
theorem prefixPairs_walk (a : Nat) (n : Int) (ha : a < 4294967296) (b : Nat) (m : Int) (hb : b < 4294967296) (w : World) :
    Calls Try.prog 4 #[.agg #[.int .u32 a, .int .i64 n], .agg #[.int .u32 b, .int .i64 m]] w fun e w' => e = .returned (.bool true) ∧ Below w.heap.size w w' := by
  have hself := cmp_self a n
  go_enter Try.func4, Try.ntmps4
  go_wp2_with (fail)
  refine (common_any a n b m _ ha hb).mono ?_
  rintro e w1 ⟨rfl, hb1⟩
  have hz1 := hb1.size
  (try simp at hz1)
  have hl1_0 : w.heap.size < w1.heap.size := by omega
  have hl1_1 : w.heap.size + 1 < w1.heap.size := by omega
  have c1_0 : w1.cell? ⟨w.heap.size, 0, none⟩ = some (.int .u32 (a : Int)) := cell_on hb1 (show ((w.alloc (.cells #[.int .u32 (a : Int), .int .i64 n] 24)).alloc (.cells #[.int .u32 (b : Int), .int .i64 m] 24)).cell? ⟨w.heap.size, 0, none⟩ = some (.int .u32 (a : Int)) from by simp [go_sem])
  have c1_1 : w1.cell? ⟨w.heap.size, 1, none⟩ = some (.int .i64 n) := cell_on hb1 (show ((w.alloc (.cells #[.int .u32 (a : Int), .int .i64 n] 24)).alloc (.cells #[.int .u32 (b : Int), .int .i64 m] 24)).cell? ⟨w.heap.size, 1, none⟩ = some (.int .i64 n) from by simp [go_sem])
  have c1_2 : w1.cell? ⟨w.heap.size + 1, 0, none⟩ = some (.int .u32 (b : Int)) := cell_on hb1 (show ((w.alloc (.cells #[.int .u32 (a : Int), .int .i64 n] 24)).alloc (.cells #[.int .u32 (b : Int), .int .i64 m] 24)).cell? ⟨w.heap.size + 1, 0, none⟩ = some (.int .u32 (b : Int)) from by simp [go_sem])
  have c1_3 : w1.cell? ⟨w.heap.size + 1, 1, none⟩ = some (.int .i64 m) := cell_on hb1 (show ((w.alloc (.cells #[.int .u32 (a : Int), .int .i64 n] 24)).alloc (.cells #[.int .u32 (b : Int), .int .i64 m] 24)).cell? ⟨w.heap.size + 1, 1, none⟩ = some (.int .i64 m) from by simp [go_sem])
  have hw1 : Below w.heap.size w w1 := by (repeat (first | assumption | exact Below.refl _ _ | refine Below.drew ?_ | refine bel_drewN ?_ _ | refine Below.setCell ?_ (by first | omega | (simp; done) | (simp; omega)) _ | refine Below.alloc ?_ (by first | omega | (simp; done) | (simp; omega)) _ | refine bel_of ?_ (by assumption)))
  clear hb1
  go_wp2_with (fail)
  refine (rcommon_any a n b m _ ha hb).mono ?_
  rintro e w2 ⟨rfl, hb2⟩
  have hz2 := hb2.size
  (try simp at hz2)
  have hl2_0 : w.heap.size < w2.heap.size := by omega
  have hl2_1 : w.heap.size + 1 < w2.heap.size := by omega
  have hl2_2 : w1.heap.size < w2.heap.size := by omega
  have c2_0 : w2.cell? ⟨w.heap.size, 0, none⟩ = some (.int .u32 (a : Int)) := cell_on hb2 (cell_alloc c1_0)
  have c2_1 : w2.cell? ⟨w.heap.size, 1, none⟩ = some (.int .i64 n) := cell_on hb2 (cell_alloc c1_1)
  have c2_2 : w2.cell? ⟨w.heap.size + 1, 0, none⟩ = some (.int .u32 (b : Int)) := cell_on hb2 (cell_alloc c1_2)
  have c2_3 : w2.cell? ⟨w.heap.size + 1, 1, none⟩ = some (.int .i64 m) := cell_on hb2 (cell_alloc c1_3)
  have c2_4 : w2.cell? ⟨w1.heap.size, 0, none⟩ = some (.int .u32 (cA a n b m : Int)) := cell_on hb2 (show (w1.alloc (.cells #[.int .u32 (cA a n b m : Int), .int .i64 (cN a n b m : Int)] 24)).cell? ⟨w1.heap.size, 0, none⟩ = some (.int .u32 (cA a n b m : Int)) from by simp [go_sem])
  have c2_5 : w2.cell? ⟨w1.heap.size, 1, none⟩ = some (.int .i64 (cN a n b m : Int)) := cell_on hb2 (show (w1.alloc (.cells #[.int .u32 (cA a n b m : Int), .int .i64 (cN a n b m : Int)] 24)).cell? ⟨w1.heap.size, 1, none⟩ = some (.int .i64 (cN a n b m : Int)) from by simp [go_sem])
  have hw2 : Below w.heap.size w w2 := by (repeat (first | assumption | exact Below.refl _ _ | refine Below.drew ?_ | refine bel_drewN ?_ _ | refine Below.setCell ?_ (by first | omega | (simp; done) | (simp; omega)) _ | refine Below.alloc ?_ (by first | omega | (simp; done) | (simp; omega)) _ | refine bel_of ?_ (by assumption)))
  clear hb2 hz1 hl1_0 hl1_1 c1_0 c1_1 c1_2 c1_3 hw1
  go_wp2_with (fail)
  refine (common_any b m a n _ hb ha).mono ?_
  rintro e w3 ⟨rfl, hb3⟩
  have hz3 := hb3.size
  (try simp at hz3)
  have hl3_0 : w.heap.size < w3.heap.size := by omega
  have hl3_1 : w.heap.size + 1 < w3.heap.size := by omega
  have hl3_2 : w1.heap.size < w3.heap.size := by omega
  have hl3_3 : w2.heap.size < w3.heap.size := by omega
  have c3_0 : w3.cell? ⟨w.heap.size, 0, none⟩ = some (.int .u32 (a : Int)) := cell_on hb3 (cell_alloc c2_0)
  have c3_1 : w3.cell? ⟨w.heap.size, 1, none⟩ = some (.int .i64 n) := cell_on hb3 (cell_alloc c2_1)
  have c3_2 : w3.cell? ⟨w.heap.size + 1, 0, none⟩ = some (.int .u32 (b : Int)) := cell_on hb3 (cell_alloc c2_2)
  have c3_3 : w3.cell? ⟨w.heap.size + 1, 1, none⟩ = some (.int .i64 m) := cell_on hb3 (cell_alloc c2_3)
  have c3_4 : w3.cell? ⟨w1.heap.size, 0, none⟩ = some (.int .u32 (cA a n b m : Int)) := cell_on hb3 (cell_alloc c2_4)
  have c3_5 : w3.cell? ⟨w1.heap.size, 1, none⟩ = some (.int .i64 (cN a n b m : Int)) := cell_on hb3 (cell_alloc c2_5)
  have c3_6 : w3.cell? ⟨w2.heap.size, 0, none⟩ = some (.int .u32 (cA a n b m : Int)) := cell_on hb3 (show (w2.alloc (.cells #[.int .u32 (cA a n b m : Int), .int .i64 (cN a n b m : Int)] 24)).cell? ⟨w2.heap.size, 0, none⟩ = some (.int .u32 (cA a n b m : Int)) from by simp [go_sem])
  have c3_7 : w3.cell? ⟨w2.heap.size, 1, none⟩ = some (.int .i64 (cN a n b m : Int)) := cell_on hb3 (show (w2.alloc (.cells #[.int .u32 (cA a n b m : Int), .int .i64 (cN a n b m : Int)] 24)).cell? ⟨w2.heap.size, 1, none⟩ = some (.int .i64 (cN a n b m : Int)) from by simp [go_sem])
  have hw3 : Below w.heap.size w w3 := by (repeat (first | assumption | exact Below.refl _ _ | refine Below.drew ?_ | refine bel_drewN ?_ _ | refine Below.setCell ?_ (by first | omega | (simp; done) | (simp; omega)) _ | refine Below.alloc ?_ (by first | omega | (simp; done) | (simp; omega)) _ | refine bel_of ?_ (by assumption)))
  clear hb3 hz2 hl2_0 hl2_1 hl2_2 c2_0 c2_1 c2_2 c2_3 c2_4 c2_5 hw2
  go_wp2_with (fail)
  refine (rcommon_any b m a n _ hb ha).mono ?_
  rintro e w4 ⟨rfl, hb4⟩
  have hz4 := hb4.size
  (try simp at hz4)
  have hl4_0 : w.heap.size < w4.heap.size := by omega
  have hl4_1 : w.heap.size + 1 < w4.heap.size := by omega
  have hl4_2 : w1.heap.size < w4.heap.size := by omega
  have hl4_3 : w2.heap.size < w4.heap.size := by omega
  have hl4_4 : w3.heap.size < w4.heap.size := by omega
  have c4_0 : w4.cell? ⟨w.heap.size, 0, none⟩ = some (.int .u32 (a : Int)) := cell_on hb4 (cell_alloc c3_0)
  have c4_1 : w4.cell? ⟨w.heap.size, 1, none⟩ = some (.int .i64 n) := cell_on hb4 (cell_alloc c3_1)
  have c4_2 : w4.cell? ⟨w.heap.size + 1, 0, none⟩ = some (.int .u32 (b : Int)) := cell_on hb4 (cell_alloc c3_2)
  have c4_3 : w4.cell? ⟨w.heap.size + 1, 1, none⟩ = some (.int .i64 m) := cell_on hb4 (cell_alloc c3_3)
  have c4_4 : w4.cell? ⟨w1.heap.size, 0, none⟩ = some (.int .u32 (cA a n b m : Int)) := cell_on hb4 (cell_alloc c3_4)
  have c4_5 : w4.cell? ⟨w1.heap.size, 1, none⟩ = some (.int .i64 (cN a n b m : Int)) := cell_on hb4 (cell_alloc c3_5)
  have c4_6 : w4.cell? ⟨w2.heap.size, 0, none⟩ = some (.int .u32 (cA a n b m : Int)) := cell_on hb4 (cell_alloc c3_6)
  have c4_7 : w4.cell? ⟨w2.heap.size, 1, none⟩ = some (.int .i64 (cN a n b m : Int)) := cell_on hb4 (cell_alloc c3_7)
  have c4_8 : w4.cell? ⟨w3.heap.size, 0, none⟩ = some (.int .u32 (cA b m a n : Int)) := cell_on hb4 (show (w3.alloc (.cells #[.int .u32 (cA b m a n : Int), .int .i64 (cN b m a n : Int)] 24)).cell? ⟨w3.heap.size, 0, none⟩ = some (.int .u32 (cA b m a n : Int)) from by simp [go_sem])
  have c4_9 : w4.cell? ⟨w3.heap.size, 1, none⟩ = some (.int .i64 (cN b m a n : Int)) := cell_on hb4 (show (w3.alloc (.cells #[.int .u32 (cA b m a n : Int), .int .i64 (cN b m a n : Int)] 24)).cell? ⟨w3.heap.size, 1, none⟩ = some (.int .i64 (cN b m a n : Int)) from by simp [go_sem])
  have hw4 : Below w.heap.size w w4 := by (repeat (first | assumption | exact Below.refl _ _ | refine Below.drew ?_ | refine bel_drewN ?_ _ | refine Below.setCell ?_ (by first | omega | (simp; done) | (simp; omega)) _ | refine Below.alloc ?_ (by first | omega | (simp; done) | (simp; omega)) _ | refine bel_of ?_ (by assumption)))
  clear hb4 hz3 hl3_0 hl3_1 hl3_2 hl3_3 c3_0 c3_1 c3_2 c3_3 c3_4 c3_5 c3_6 c3_7 hw3
  go_wp2_with (fail)
  have kne : Nonempty (Kin (w4.alloc (.cells #[.int .u32 (cA b m a n : Int), .int .i64 (cN b m a n : Int)] 24))) := ⟨⟨_, Below.refl _ _⟩⟩
  have kc0 : ∀ y : Kin (w4.alloc (.cells #[.int .u32 (cA b m a n : Int), .int .i64 (cN b m a n : Int)] 24)), y.val.cell? ⟨w.heap.size, 0, none⟩ = some (.int .u32 (a : Int)) := fun y => cell_on y.is (cell_alloc c4_0)
  have kc1 : ∀ y : Kin (w4.alloc (.cells #[.int .u32 (cA b m a n : Int), .int .i64 (cN b m a n : Int)] 24)), y.val.cell? ⟨w.heap.size, 1, none⟩ = some (.int .i64 n) := fun y => cell_on y.is (cell_alloc c4_1)
  have kc2 : ∀ y : Kin (w4.alloc (.cells #[.int .u32 (cA b m a n : Int), .int .i64 (cN b m a n : Int)] 24)), y.val.cell? ⟨w.heap.size + 1, 0, none⟩ = some (.int .u32 (b : Int)) := fun y => cell_on y.is (cell_alloc c4_2)
  have kc3 : ∀ y : Kin (w4.alloc (.cells #[.int .u32 (cA b m a n : Int), .int .i64 (cN b m a n : Int)] 24)), y.val.cell? ⟨w.heap.size + 1, 1, none⟩ = some (.int .i64 m) := fun y => cell_on y.is (cell_alloc c4_3)
  have kc4 : ∀ y : Kin (w4.alloc (.cells #[.int .u32 (cA b m a n : Int), .int .i64 (cN b m a n : Int)] 24)), y.val.cell? ⟨w1.heap.size, 0, none⟩ = some (.int .u32 (cA a n b m : Int)) := fun y => cell_on y.is (cell_alloc c4_4)
  have kc5 : ∀ y : Kin (w4.alloc (.cells #[.int .u32 (cA b m a n : Int), .int .i64 (cN b m a n : Int)] 24)), y.val.cell? ⟨w1.heap.size, 1, none⟩ = some (.int .i64 (cN a n b m : Int)) := fun y => cell_on y.is (cell_alloc c4_5)
  have kc6 : ∀ y : Kin (w4.alloc (.cells #[.int .u32 (cA b m a n : Int), .int .i64 (cN b m a n : Int)] 24)), y.val.cell? ⟨w2.heap.size, 0, none⟩ = some (.int .u32 (cA a n b m : Int)) := fun y => cell_on y.is (cell_alloc c4_6)
  have kc7 : ∀ y : Kin (w4.alloc (.cells #[.int .u32 (cA b m a n : Int), .int .i64 (cN b m a n : Int)] 24)), y.val.cell? ⟨w2.heap.size, 1, none⟩ = some (.int .i64 (cN a n b m : Int)) := fun y => cell_on y.is (cell_alloc c4_7)
  have kc8 : ∀ y : Kin (w4.alloc (.cells #[.int .u32 (cA b m a n : Int), .int .i64 (cN b m a n : Int)] 24)), y.val.cell? ⟨w3.heap.size, 0, none⟩ = some (.int .u32 (cA b m a n : Int)) := fun y => cell_on y.is (cell_alloc c4_8)
  have kc9 : ∀ y : Kin (w4.alloc (.cells #[.int .u32 (cA b m a n : Int), .int .i64 (cN b m a n : Int)] 24)), y.val.cell? ⟨w3.heap.size, 1, none⟩ = some (.int .i64 (cN b m a n : Int)) := fun y => cell_on y.is (cell_alloc c4_9)
  have kc10 : ∀ y : Kin (w4.alloc (.cells #[.int .u32 (cA b m a n : Int), .int .i64 (cN b m a n : Int)] 24)), y.val.cell? ⟨w4.heap.size, 0, none⟩ = some (.int .u32 (cA b m a n : Int)) := fun y => cell_on y.is (show (w4.alloc (.cells #[.int .u32 (cA b m a n : Int), .int .i64 (cN b m a n : Int)] 24)).cell? ⟨w4.heap.size, 0, none⟩ = some (.int .u32 (cA b m a n : Int)) from by simp [go_sem])
  have kc11 : ∀ y : Kin (w4.alloc (.cells #[.int .u32 (cA b m a n : Int), .int .i64 (cN b m a n : Int)] 24)), y.val.cell? ⟨w4.heap.size, 1, none⟩ = some (.int .i64 (cN b m a n : Int)) := fun y => cell_on y.is (show (w4.alloc (.cells #[.int .u32 (cA b m a n : Int), .int .i64 (cN b m a n : Int)] 24)).cell? ⟨w4.heap.size, 1, none⟩ = some (.int .i64 (cN b m a n : Int)) from by simp [go_sem])
  refine wp_region_kin (w4.alloc (.cells #[.int .u32 (cA b m a n : Int), .int .i64 (cN b m a n : Int)] 24)) (Below.refl _ _) (by kernel_rfl) (by kernel_rfl) ?_
  repeat (go_big_quiet_step (first | (go_at_call 22; refine kin_call (within_any _ _ _ _ _ ?_ ?_) <;> assumption) | (go_at_call 23; refine kin_call (rwithin_any _ _ _ _ _ ?_ ?_) <;> assumption)))
  refine wpQuiet_nil ?_
  rintro w5 ⟨⟨xq, hxq⟩, hyq⟩
  have hb5 : Below (w4.alloc (.cells #[.int .u32 (cA b m a n : Int), .int .i64 (cN b m a n : Int)] 24)).heap.size (w4.alloc (.cells #[.int .u32 (cA b m a n : Int), .int .i64 (cN b m a n : Int)] 24)) w5 := by rw [hyq]; exact hxq
  clear hyq hxq xq
  clear kne kc0 kc1 kc2 kc3 kc4 kc5 kc6 kc7 kc8 kc9 kc10 kc11
  have hz5 := hb5.size
  (try simp at hz5)
  have hl5_0 : w.heap.size < w5.heap.size := by omega
  have hl5_1 : w.heap.size + 1 < w5.heap.size := by omega
  have hl5_2 : w1.heap.size < w5.heap.size := by omega
  have hl5_3 : w2.heap.size < w5.heap.size := by omega
  have hl5_4 : w3.heap.size < w5.heap.size := by omega
  have hl5_5 : w4.heap.size < w5.heap.size := by omega
  have c5_0 : w5.cell? ⟨w.heap.size, 0, none⟩ = some (.int .u32 (a : Int)) := cell_on hb5 (cell_alloc c4_0)
  have c5_1 : w5.cell? ⟨w.heap.size, 1, none⟩ = some (.int .i64 n) := cell_on hb5 (cell_alloc c4_1)
  have c5_2 : w5.cell? ⟨w.heap.size + 1, 0, none⟩ = some (.int .u32 (b : Int)) := cell_on hb5 (cell_alloc c4_2)
  have c5_3 : w5.cell? ⟨w.heap.size + 1, 1, none⟩ = some (.int .i64 m) := cell_on hb5 (cell_alloc c4_3)
  have c5_4 : w5.cell? ⟨w1.heap.size, 0, none⟩ = some (.int .u32 (cA a n b m : Int)) := cell_on hb5 (cell_alloc c4_4)
  have c5_5 : w5.cell? ⟨w1.heap.size, 1, none⟩ = some (.int .i64 (cN a n b m : Int)) := cell_on hb5 (cell_alloc c4_5)
  have c5_6 : w5.cell? ⟨w2.heap.size, 0, none⟩ = some (.int .u32 (cA a n b m : Int)) := cell_on hb5 (cell_alloc c4_6)
  have c5_7 : w5.cell? ⟨w2.heap.size, 1, none⟩ = some (.int .i64 (cN a n b m : Int)) := cell_on hb5 (cell_alloc c4_7)
  have c5_8 : w5.cell? ⟨w3.heap.size, 0, none⟩ = some (.int .u32 (cA b m a n : Int)) := cell_on hb5 (cell_alloc c4_8)
  have c5_9 : w5.cell? ⟨w3.heap.size, 1, none⟩ = some (.int .i64 (cN b m a n : Int)) := cell_on hb5 (cell_alloc c4_9)
  have c5_10 : w5.cell? ⟨w4.heap.size, 0, none⟩ = some (.int .u32 (cA b m a n : Int)) := cell_on hb5 (show (w4.alloc (.cells #[.int .u32 (cA b m a n : Int), .int .i64 (cN b m a n : Int)] 24)).cell? ⟨w4.heap.size, 0, none⟩ = some (.int .u32 (cA b m a n : Int)) from by simp [go_sem])
  have c5_11 : w5.cell? ⟨w4.heap.size, 1, none⟩ = some (.int .i64 (cN b m a n : Int)) := cell_on hb5 (show (w4.alloc (.cells #[.int .u32 (cA b m a n : Int), .int .i64 (cN b m a n : Int)] 24)).cell? ⟨w4.heap.size, 1, none⟩ = some (.int .i64 (cN b m a n : Int)) from by simp [go_sem])
  have hw5 : Below w.heap.size w w5 := by (repeat (first | assumption | exact Below.refl _ _ | refine Below.drew ?_ | refine bel_drewN ?_ _ | refine Below.setCell ?_ (by first | omega | (simp; done) | (simp; omega)) _ | refine Below.alloc ?_ (by first | omega | (simp; done) | (simp; omega)) _ | refine bel_of ?_ (by assumption)))
  clear hb5 hz4 hl4_0 hl4_1 hl4_2 hl4_3 hl4_4 c4_0 c4_1 c4_2 c4_3 c4_4 c4_5 c4_6 c4_7 c4_8 c4_9 hw4
  go_wp2_with (fail)
  have kne : Nonempty (Kin w5) := ⟨⟨_, Below.refl _ _⟩⟩
  have kc0 : ∀ y : Kin w5, y.val.cell? ⟨w.heap.size, 0, none⟩ = some (.int .u32 (a : Int)) := fun y => cell_on y.is c5_0
  have kc1 : ∀ y : Kin w5, y.val.cell? ⟨w.heap.size, 1, none⟩ = some (.int .i64 n) := fun y => cell_on y.is c5_1
  have kc2 : ∀ y : Kin w5, y.val.cell? ⟨w.heap.size + 1, 0, none⟩ = some (.int .u32 (b : Int)) := fun y => cell_on y.is c5_2
  have kc3 : ∀ y : Kin w5, y.val.cell? ⟨w.heap.size + 1, 1, none⟩ = some (.int .i64 m) := fun y => cell_on y.is c5_3
  have kc4 : ∀ y : Kin w5, y.val.cell? ⟨w1.heap.size, 0, none⟩ = some (.int .u32 (cA a n b m : Int)) := fun y => cell_on y.is c5_4
  have kc5 : ∀ y : Kin w5, y.val.cell? ⟨w1.heap.size, 1, none⟩ = some (.int .i64 (cN a n b m : Int)) := fun y => cell_on y.is c5_5
  have kc6 : ∀ y : Kin w5, y.val.cell? ⟨w2.heap.size, 0, none⟩ = some (.int .u32 (cA a n b m : Int)) := fun y => cell_on y.is c5_6
  have kc7 : ∀ y : Kin w5, y.val.cell? ⟨w2.heap.size, 1, none⟩ = some (.int .i64 (cN a n b m : Int)) := fun y => cell_on y.is c5_7
  have kc8 : ∀ y : Kin w5, y.val.cell? ⟨w3.heap.size, 0, none⟩ = some (.int .u32 (cA b m a n : Int)) := fun y => cell_on y.is c5_8
  have kc9 : ∀ y : Kin w5, y.val.cell? ⟨w3.heap.size, 1, none⟩ = some (.int .i64 (cN b m a n : Int)) := fun y => cell_on y.is c5_9
  have kc10 : ∀ y : Kin w5, y.val.cell? ⟨w4.heap.size, 0, none⟩ = some (.int .u32 (cA b m a n : Int)) := fun y => cell_on y.is c5_10
  have kc11 : ∀ y : Kin w5, y.val.cell? ⟨w4.heap.size, 1, none⟩ = some (.int .i64 (cN b m a n : Int)) := fun y => cell_on y.is c5_11
  refine wp_region_kin w5 (Below.refl _ _) (by kernel_rfl) (by kernel_rfl) ?_
  repeat (go_big_quiet_step (first | (go_at_call 24; exact kin_call (compare_any _ _ _ _ _)) | (go_at_call 25; exact kin_call (rcompare_any _ _ _ _ _))))
  refine wpQuiet_nil ?_
  rintro w6 ⟨⟨xq, hxq⟩, hyq⟩
  have hb6 : Below w5.heap.size w5 w6 := by rw [hyq]; exact hxq
  clear hyq hxq xq
  clear kne kc0 kc1 kc2 kc3 kc4 kc5 kc6 kc7 kc8 kc9 kc10 kc11
  have hz6 := hb6.size
  (try simp at hz6)
  have hl6_0 : w.heap.size < w6.heap.size := by omega
  have hl6_1 : w.heap.size + 1 < w6.heap.size := by omega
  have hl6_2 : w1.heap.size < w6.heap.size := by omega
  have hl6_3 : w2.heap.size < w6.heap.size := by omega
  have hl6_4 : w3.heap.size < w6.heap.size := by omega
  have hl6_5 : w4.heap.size < w6.heap.size := by omega
  have c6_0 : w6.cell? ⟨w.heap.size, 0, none⟩ = some (.int .u32 (a : Int)) := cell_on hb6 c5_0
  have c6_1 : w6.cell? ⟨w.heap.size, 1, none⟩ = some (.int .i64 n) := cell_on hb6 c5_1
  have c6_2 : w6.cell? ⟨w.heap.size + 1, 0, none⟩ = some (.int .u32 (b : Int)) := cell_on hb6 c5_2
  have c6_3 : w6.cell? ⟨w.heap.size + 1, 1, none⟩ = some (.int .i64 m) := cell_on hb6 c5_3
  have c6_4 : w6.cell? ⟨w1.heap.size, 0, none⟩ = some (.int .u32 (cA a n b m : Int)) := cell_on hb6 c5_4
  have c6_5 : w6.cell? ⟨w1.heap.size, 1, none⟩ = some (.int .i64 (cN a n b m : Int)) := cell_on hb6 c5_5
  have c6_6 : w6.cell? ⟨w2.heap.size, 0, none⟩ = some (.int .u32 (cA a n b m : Int)) := cell_on hb6 c5_6
  have c6_7 : w6.cell? ⟨w2.heap.size, 1, none⟩ = some (.int .i64 (cN a n b m : Int)) := cell_on hb6 c5_7
  have c6_8 : w6.cell? ⟨w3.heap.size, 0, none⟩ = some (.int .u32 (cA b m a n : Int)) := cell_on hb6 c5_8
  have c6_9 : w6.cell? ⟨w3.heap.size, 1, none⟩ = some (.int .i64 (cN b m a n : Int)) := cell_on hb6 c5_9
  have c6_10 : w6.cell? ⟨w4.heap.size, 0, none⟩ = some (.int .u32 (cA b m a n : Int)) := cell_on hb6 c5_10
  have c6_11 : w6.cell? ⟨w4.heap.size, 1, none⟩ = some (.int .i64 (cN b m a n : Int)) := cell_on hb6 c5_11
  have hw6 : Below w.heap.size w w6 := by (repeat (first | assumption | exact Below.refl _ _ | refine Below.drew ?_ | refine bel_drewN ?_ _ | refine Below.setCell ?_ (by first | omega | (simp; done) | (simp; omega)) _ | refine Below.alloc ?_ (by first | omega | (simp; done) | (simp; omega)) _ | refine bel_of ?_ (by assumption)))
  clear hb6 hz5 hl5_0 hl5_1 hl5_2 hl5_3 hl5_4 hl5_5 c5_0 c5_1 c5_2 c5_3 c5_4 c5_5 c5_6 c5_7 c5_8 c5_9 c5_10 c5_11 hw5
  go_wp2_with (fail)
  refine (awake_any _).mono ?_
  rintro e w7 ⟨rfl, hb7⟩
  have hz7 := hb7.size
  (try simp at hz7)
  have hl7_0 : w.heap.size < w7.heap.size := by omega
  have hl7_1 : w.heap.size + 1 < w7.heap.size := by omega
  have hl7_2 : w1.heap.size < w7.heap.size := by omega
  have hl7_3 : w2.heap.size < w7.heap.size := by omega
  have hl7_4 : w3.heap.size < w7.heap.size := by omega
  have hl7_5 : w4.heap.size < w7.heap.size := by omega
  have c7_0 : w7.cell? ⟨w.heap.size, 0, none⟩ = some (.int .u32 (a : Int)) := cell_on hb7 c6_0
  have c7_1 : w7.cell? ⟨w.heap.size, 1, none⟩ = some (.int .i64 n) := cell_on hb7 c6_1
  have c7_2 : w7.cell? ⟨w.heap.size + 1, 0, none⟩ = some (.int .u32 (b : Int)) := cell_on hb7 c6_2
  have c7_3 : w7.cell? ⟨w.heap.size + 1, 1, none⟩ = some (.int .i64 m) := cell_on hb7 c6_3
  have c7_4 : w7.cell? ⟨w1.heap.size, 0, none⟩ = some (.int .u32 (cA a n b m : Int)) := cell_on hb7 c6_4
  have c7_5 : w7.cell? ⟨w1.heap.size, 1, none⟩ = some (.int .i64 (cN a n b m : Int)) := cell_on hb7 c6_5
  have c7_6 : w7.cell? ⟨w2.heap.size, 0, none⟩ = some (.int .u32 (cA a n b m : Int)) := cell_on hb7 c6_6
  have c7_7 : w7.cell? ⟨w2.heap.size, 1, none⟩ = some (.int .i64 (cN a n b m : Int)) := cell_on hb7 c6_7
  have c7_8 : w7.cell? ⟨w3.heap.size, 0, none⟩ = some (.int .u32 (cA b m a n : Int)) := cell_on hb7 c6_8
  have c7_9 : w7.cell? ⟨w3.heap.size, 1, none⟩ = some (.int .i64 (cN b m a n : Int)) := cell_on hb7 c6_9
  have c7_10 : w7.cell? ⟨w4.heap.size, 0, none⟩ = some (.int .u32 (cA b m a n : Int)) := cell_on hb7 c6_10
  have c7_11 : w7.cell? ⟨w4.heap.size, 1, none⟩ = some (.int .i64 (cN b m a n : Int)) := cell_on hb7 c6_11
  have hw7 : Below w.heap.size w w7 := by (repeat (first | assumption | exact Below.refl _ _ | refine Below.drew ?_ | refine bel_drewN ?_ _ | refine Below.setCell ?_ (by first | omega | (simp; done) | (simp; omega)) _ | refine Below.alloc ?_ (by first | omega | (simp; done) | (simp; omega)) _ | refine bel_of ?_ (by assumption)))
  clear hb7 hz6 hl6_0 hl6_1 hl6_2 hl6_3 hl6_4 hl6_5 c6_0 c6_1 c6_2 c6_3 c6_4 c6_5 c6_6 c6_7 c6_8 c6_9 c6_10 c6_11 hw6
  go_wp2_with (fail)
  go_ret
  exact ⟨ret_same (by simp), by (repeat (first | assumption | exact Below.refl _ _ | refine Below.drew ?_ | refine bel_drewN ?_ _ | refine Below.setCell ?_ (by first | omega | (simp; done) | (simp; omega)) _ | refine Below.alloc ?_ (by first | omega | (simp; done) | (simp; omega)) _ | refine bel_of ?_ (by assumption)))⟩

set_option maxRecDepth 100000 in
theorem prefixPairs_lifted (os : Os) (started : os.Started) (H : Type) (enc : TypeId × Value → H) :
    ReturnsInHanded {} Try.checked os 4 .any (Rows.prefixPairsSpec.pre6 enc Try.prog Try.f4 Rows.prefixPairsRow.domain false) (Rows.prefixPairsSpec.post enc Try.prog Try.f4 false true false false) := by
  refine returnsInHanded_of_change (C := Try.checked) own started (by kernel_rfl) Try.func4
    (ChangeSpec.witness6 (enc := enc) (C := Try.checked) false ⟨#[], #[.agg #[.int .u32 0, .int .i64 0], .agg #[.int .u32 0, .int .i64 0]], []⟩ 8 (by kernel_rfl) (by kernel_rfl) (by kernel_rfl) (by kernel_rfl)) ?_
  intro W base args ds gs before hval0 hW hcnd _
  have hval : ∀ (j : Nat) t v, Try.f4.params[j]? = some t → args[j]? = some v → Value.okWide Try.prog W .any base t v := hval0
  have hW' := hW
  obtain ⟨p, q, hA0, hV, rfl, hfz, hnd⟩ := hW
  have hA : DataW.TrodAll enc Try.prog W 0 (fun _ => true) true Try.f4.params.toList args.toList ds p := hA0
  rw [Try.params4] at hA hval
  obtain ⟨v0, vs0, d0, ds0, p0, q0, hargs, rfl, rfl, h0, r0⟩ := trodAll_cons hA
  obtain ⟨v1, vs1, d1, ds1, p1, q1, rfl, rfl, rfl, h1, r1⟩ := trodAll_cons r0
  obtain ⟨rfl, rfl, rfl⟩ := trodAll_nil r1
  obtain rfl : args = #[v0, v1] := by cases args; simp_all
  obtain ⟨rfl, rfl⟩ := trodVars_none hV
  obtain ⟨a0, n0, rfl, rfl, rfl, w0, x0⟩ := open_px (hval 0 24 v0 rfl rfl) h0
  obtain ⟨b0, rfl, t0⟩ := wf_u32 w0
  obtain ⟨a1, n1, rfl, rfl, rfl, w1, x1⟩ := open_px (hval 1 24 v1 rfl rfl) h1
  obtain ⟨b1, rfl, t1⟩ := wf_u32 w1
  clear hA0 hval0
  simp only [List.append_nil] at hW'
  refine (prefixPairs_walk b0 n0 t0 b1 n1 t1 W).mono fun e W' ⟨he, bel⟩ => ?_
  subst he
  exact ⟨_, rfl, _, _, _, [], _, [], hW', trodAll_mk1 (shut_bool Try.underlying4 _), (trodAll_cons_mk (shut_px w0 x0) (trodAll_cons_mk (shut_px w1 x1) trodAll_mk0)), rfl, bel.frame _, fun h => by cases h⟩

/-- The given statement. -/
theorem prefixPairs_holds : Rows.PrefixPairsSaid :=
  OpenClaim.holds_of_wide 4 Try.f4 rfl rfl rfl rfl rfl rfl rfl ⟨rfl, rfl, rfl, rfl, rfl⟩ rfl rfl rfl rfl rfl (by kernel_rfl) Try.func4 (by kernel_rfl)
    (of_decide_eq_true (by kernel_rfl)) (by unfold Func.isWrapper; first | (rw [if_pos (by decide +kernel)]; kernel_rfl) | (rw [if_neg (by decide +kernel)]; exact ⟨rfl, rfl⟩))
    (fun os started H enc _ => prefixPairs_lifted os started H enc)
#print axioms prefixPairs_holds
end Go.Proofs.Ytegkkekbgndmpaa
