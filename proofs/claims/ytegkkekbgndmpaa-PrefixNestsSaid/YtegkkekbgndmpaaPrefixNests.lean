/-
  Proved: of any three prefixes that may be, two lie within one another or apart, Within is an order and that of the runs, and Common holds both and lies in all that do (P2.7); the document's examples hold.
  Conditions: none; the law holds for every input.
-/
import Derived.Test.YtegkkekbgndmpaaPxAwake
import Derived.Test.YtegkkekbgndmpaaPxPlC
import Derived.Deep.DeepCutAuto
import Derived.Test.YtegkkekbgndmpaaPxFrame
namespace Go.Proofs.Ytegkkekbgndmpaa
open Go.ChangeShapes Go.WideShapes Go.ChangeAt Go.RowKit Go.Joins
set_option linter.unusedVariables false
set_option linter.unusedSimpArgs false

theorem no_of {t : Bool} {p : Prop} (h : t = true ↔ p) (n : ¬ p) : t = false := by
  cases t with
  | false => rfl
  | true => exact absurd (h.1 rfl) n
set_option maxRecDepth 100000 in
set_option maxHeartbeats 8000000 in
theorem nests_bad (a : Nat) (n : Int) (ha : a < 4294967296) (b : Nat) (m : Int) (hb : b < 4294967296) (c : Nat) (k : Int) (hc : c < 4294967296) (h : ¬ (chk a n = 0 ∧ chk b m = 0 ∧ chk c k = 0)) (w : World) :
    Calls Try.prog 8 #[.agg #[.int .u32 a, .int .i64 n], .agg #[.int .u32 b, .int .i64 m], .agg #[.int .u32 c, .int .i64 k]] w fun e w' => e = .returned (.bool true) ∧ Below w.heap.size w w' := by
  by_cases h1 : chk a n = 0
  · by_cases h2 : chk b m = 0
    · have h3 : (chk c k != 0) = true := by simpa using fun e => h ⟨h1, h2, e⟩
      clear h
      go_enter Try.func8, Try.ntmps8
      go_wp2_with (fail)
      refine (rcheck_any a n _ ha).mono ?_
      rintro e w1 ⟨rfl, hb1⟩
      have hz1 := hb1.size
      (try simp at hz1)
      have hl1_0 : w.heap.size < w1.heap.size := by omega
      have hl1_1 : w.heap.size + 1 < w1.heap.size := by omega
      have hl1_2 : w.heap.size + 1 + 1 < w1.heap.size := by omega
      have c1_0 : w1.cell? ⟨w.heap.size, 0, none⟩ = some (.int .u32 (a : Int)) := cell_on hb1 (show (((w.alloc (.cells #[.int .u32 (a : Int), .int .i64 n] 24)).alloc (.cells #[.int .u32 (b : Int), .int .i64 m] 24)).alloc (.cells #[.int .u32 (c : Int), .int .i64 k] 24)).cell? ⟨w.heap.size, 0, none⟩ = some (.int .u32 (a : Int)) from by simp [go_sem])
      have c1_1 : w1.cell? ⟨w.heap.size, 1, none⟩ = some (.int .i64 n) := cell_on hb1 (show (((w.alloc (.cells #[.int .u32 (a : Int), .int .i64 n] 24)).alloc (.cells #[.int .u32 (b : Int), .int .i64 m] 24)).alloc (.cells #[.int .u32 (c : Int), .int .i64 k] 24)).cell? ⟨w.heap.size, 1, none⟩ = some (.int .i64 n) from by simp [go_sem])
      have c1_2 : w1.cell? ⟨w.heap.size + 1, 0, none⟩ = some (.int .u32 (b : Int)) := cell_on hb1 (show (((w.alloc (.cells #[.int .u32 (a : Int), .int .i64 n] 24)).alloc (.cells #[.int .u32 (b : Int), .int .i64 m] 24)).alloc (.cells #[.int .u32 (c : Int), .int .i64 k] 24)).cell? ⟨w.heap.size + 1, 0, none⟩ = some (.int .u32 (b : Int)) from by simp [go_sem])
      have c1_3 : w1.cell? ⟨w.heap.size + 1, 1, none⟩ = some (.int .i64 m) := cell_on hb1 (show (((w.alloc (.cells #[.int .u32 (a : Int), .int .i64 n] 24)).alloc (.cells #[.int .u32 (b : Int), .int .i64 m] 24)).alloc (.cells #[.int .u32 (c : Int), .int .i64 k] 24)).cell? ⟨w.heap.size + 1, 1, none⟩ = some (.int .i64 m) from by simp [go_sem])
      have c1_4 : w1.cell? ⟨w.heap.size + 1 + 1, 0, none⟩ = some (.int .u32 (c : Int)) := cell_on hb1 (show (((w.alloc (.cells #[.int .u32 (a : Int), .int .i64 n] 24)).alloc (.cells #[.int .u32 (b : Int), .int .i64 m] 24)).alloc (.cells #[.int .u32 (c : Int), .int .i64 k] 24)).cell? ⟨w.heap.size + 1 + 1, 0, none⟩ = some (.int .u32 (c : Int)) from by simp [go_sem])
      have c1_5 : w1.cell? ⟨w.heap.size + 1 + 1, 1, none⟩ = some (.int .i64 k) := cell_on hb1 (show (((w.alloc (.cells #[.int .u32 (a : Int), .int .i64 n] 24)).alloc (.cells #[.int .u32 (b : Int), .int .i64 m] 24)).alloc (.cells #[.int .u32 (c : Int), .int .i64 k] 24)).cell? ⟨w.heap.size + 1 + 1, 1, none⟩ = some (.int .i64 k) from by simp [go_sem])
      have hw1 : Below w.heap.size w w1 := by (repeat (first | assumption | exact Below.refl _ _ | refine Below.drew ?_ | refine bel_drewN ?_ _ | refine Below.setCell ?_ (by first | omega | (simp; done) | (simp; omega)) _ | refine Below.alloc ?_ (by first | omega | (simp; done) | (simp; omega)) _ | refine bel_of ?_ (by assumption)))
      clear hb1
      go_wp2_with (fail)
      refine (rcheck_any b m _ hb).mono ?_
      rintro e w2 ⟨rfl, hb2⟩
      have hz2 := hb2.size
      (try simp at hz2)
      have hl2_0 : w.heap.size < w2.heap.size := by omega
      have hl2_1 : w.heap.size + 1 < w2.heap.size := by omega
      have hl2_2 : w.heap.size + 1 + 1 < w2.heap.size := by omega
      have c2_0 : w2.cell? ⟨w.heap.size, 0, none⟩ = some (.int .u32 (a : Int)) := cell_on hb2 c1_0
      have c2_1 : w2.cell? ⟨w.heap.size, 1, none⟩ = some (.int .i64 n) := cell_on hb2 c1_1
      have c2_2 : w2.cell? ⟨w.heap.size + 1, 0, none⟩ = some (.int .u32 (b : Int)) := cell_on hb2 c1_2
      have c2_3 : w2.cell? ⟨w.heap.size + 1, 1, none⟩ = some (.int .i64 m) := cell_on hb2 c1_3
      have c2_4 : w2.cell? ⟨w.heap.size + 1 + 1, 0, none⟩ = some (.int .u32 (c : Int)) := cell_on hb2 c1_4
      have c2_5 : w2.cell? ⟨w.heap.size + 1 + 1, 1, none⟩ = some (.int .i64 k) := cell_on hb2 c1_5
      have hw2 : Below w.heap.size w w2 := by (repeat (first | assumption | exact Below.refl _ _ | refine Below.drew ?_ | refine bel_drewN ?_ _ | refine Below.setCell ?_ (by first | omega | (simp; done) | (simp; omega)) _ | refine Below.alloc ?_ (by first | omega | (simp; done) | (simp; omega)) _ | refine bel_of ?_ (by assumption)))
      clear hb2 hz1 hl1_0 hl1_1 hl1_2 c1_0 c1_1 c1_2 c1_3 c1_4 c1_5 hw1
      go_wp2_with (fail)
      refine (rcheck_any c k _ hc).mono ?_
      rintro e w3 ⟨rfl, hb3⟩
      have hz3 := hb3.size
      (try simp at hz3)
      have hl3_0 : w.heap.size < w3.heap.size := by omega
      have hl3_1 : w.heap.size + 1 < w3.heap.size := by omega
      have hl3_2 : w.heap.size + 1 + 1 < w3.heap.size := by omega
      have c3_0 : w3.cell? ⟨w.heap.size, 0, none⟩ = some (.int .u32 (a : Int)) := cell_on hb3 c2_0
      have c3_1 : w3.cell? ⟨w.heap.size, 1, none⟩ = some (.int .i64 n) := cell_on hb3 c2_1
      have c3_2 : w3.cell? ⟨w.heap.size + 1, 0, none⟩ = some (.int .u32 (b : Int)) := cell_on hb3 c2_2
      have c3_3 : w3.cell? ⟨w.heap.size + 1, 1, none⟩ = some (.int .i64 m) := cell_on hb3 c2_3
      have c3_4 : w3.cell? ⟨w.heap.size + 1 + 1, 0, none⟩ = some (.int .u32 (c : Int)) := cell_on hb3 c2_4
      have c3_5 : w3.cell? ⟨w.heap.size + 1 + 1, 1, none⟩ = some (.int .i64 k) := cell_on hb3 c2_5
      have hw3 : Below w.heap.size w w3 := by (repeat (first | assumption | exact Below.refl _ _ | refine Below.drew ?_ | refine bel_drewN ?_ _ | refine Below.setCell ?_ (by first | omega | (simp; done) | (simp; omega)) _ | refine Below.alloc ?_ (by first | omega | (simp; done) | (simp; omega)) _ | refine bel_of ?_ (by assumption)))
      clear hb3 hz2 hl2_0 hl2_1 hl2_2 c2_0 c2_1 c2_2 c2_3 c2_4 c2_5 hw2
      go_wp2_with (fail)
      refine (awake_any _).mono ?_
      rintro e w4 ⟨rfl, hb4⟩
      have hz4 := hb4.size
      (try simp at hz4)
      have hl4_0 : w.heap.size < w4.heap.size := by omega
      have hl4_1 : w.heap.size + 1 < w4.heap.size := by omega
      have hl4_2 : w.heap.size + 1 + 1 < w4.heap.size := by omega
      have c4_0 : w4.cell? ⟨w.heap.size, 0, none⟩ = some (.int .u32 (a : Int)) := cell_on hb4 c3_0
      have c4_1 : w4.cell? ⟨w.heap.size, 1, none⟩ = some (.int .i64 n) := cell_on hb4 c3_1
      have c4_2 : w4.cell? ⟨w.heap.size + 1, 0, none⟩ = some (.int .u32 (b : Int)) := cell_on hb4 c3_2
      have c4_3 : w4.cell? ⟨w.heap.size + 1, 1, none⟩ = some (.int .i64 m) := cell_on hb4 c3_3
      have c4_4 : w4.cell? ⟨w.heap.size + 1 + 1, 0, none⟩ = some (.int .u32 (c : Int)) := cell_on hb4 c3_4
      have c4_5 : w4.cell? ⟨w.heap.size + 1 + 1, 1, none⟩ = some (.int .i64 k) := cell_on hb4 c3_5
      have hw4 : Below w.heap.size w w4 := by (repeat (first | assumption | exact Below.refl _ _ | refine Below.drew ?_ | refine bel_drewN ?_ _ | refine Below.setCell ?_ (by first | omega | (simp; done) | (simp; omega)) _ | refine Below.alloc ?_ (by first | omega | (simp; done) | (simp; omega)) _ | refine bel_of ?_ (by assumption)))
      clear hb4 hz3 hl3_0 hl3_1 hl3_2 c3_0 c3_1 c3_2 c3_3 c3_4 c3_5 hw3
      go_wp2_with (fail)
      go_ret
      exact ⟨rfl, by (repeat (first | assumption | exact Below.refl _ _ | refine Below.drew ?_ | refine bel_drewN ?_ _ | refine Below.setCell ?_ (by first | omega | (simp; done) | (simp; omega)) _ | refine Below.alloc ?_ (by first | omega | (simp; done) | (simp; omega)) _ | refine bel_of ?_ (by assumption)))⟩
    · have h3 : (chk b m != 0) = true := by simpa using h2
      clear h
      go_enter Try.func8, Try.ntmps8
      go_wp2_with (fail)
      refine (rcheck_any a n _ ha).mono ?_
      rintro e w1 ⟨rfl, hb1⟩
      have hz1 := hb1.size
      (try simp at hz1)
      have hl1_0 : w.heap.size < w1.heap.size := by omega
      have hl1_1 : w.heap.size + 1 < w1.heap.size := by omega
      have hl1_2 : w.heap.size + 1 + 1 < w1.heap.size := by omega
      have c1_0 : w1.cell? ⟨w.heap.size, 0, none⟩ = some (.int .u32 (a : Int)) := cell_on hb1 (show (((w.alloc (.cells #[.int .u32 (a : Int), .int .i64 n] 24)).alloc (.cells #[.int .u32 (b : Int), .int .i64 m] 24)).alloc (.cells #[.int .u32 (c : Int), .int .i64 k] 24)).cell? ⟨w.heap.size, 0, none⟩ = some (.int .u32 (a : Int)) from by simp [go_sem])
      have c1_1 : w1.cell? ⟨w.heap.size, 1, none⟩ = some (.int .i64 n) := cell_on hb1 (show (((w.alloc (.cells #[.int .u32 (a : Int), .int .i64 n] 24)).alloc (.cells #[.int .u32 (b : Int), .int .i64 m] 24)).alloc (.cells #[.int .u32 (c : Int), .int .i64 k] 24)).cell? ⟨w.heap.size, 1, none⟩ = some (.int .i64 n) from by simp [go_sem])
      have c1_2 : w1.cell? ⟨w.heap.size + 1, 0, none⟩ = some (.int .u32 (b : Int)) := cell_on hb1 (show (((w.alloc (.cells #[.int .u32 (a : Int), .int .i64 n] 24)).alloc (.cells #[.int .u32 (b : Int), .int .i64 m] 24)).alloc (.cells #[.int .u32 (c : Int), .int .i64 k] 24)).cell? ⟨w.heap.size + 1, 0, none⟩ = some (.int .u32 (b : Int)) from by simp [go_sem])
      have c1_3 : w1.cell? ⟨w.heap.size + 1, 1, none⟩ = some (.int .i64 m) := cell_on hb1 (show (((w.alloc (.cells #[.int .u32 (a : Int), .int .i64 n] 24)).alloc (.cells #[.int .u32 (b : Int), .int .i64 m] 24)).alloc (.cells #[.int .u32 (c : Int), .int .i64 k] 24)).cell? ⟨w.heap.size + 1, 1, none⟩ = some (.int .i64 m) from by simp [go_sem])
      have c1_4 : w1.cell? ⟨w.heap.size + 1 + 1, 0, none⟩ = some (.int .u32 (c : Int)) := cell_on hb1 (show (((w.alloc (.cells #[.int .u32 (a : Int), .int .i64 n] 24)).alloc (.cells #[.int .u32 (b : Int), .int .i64 m] 24)).alloc (.cells #[.int .u32 (c : Int), .int .i64 k] 24)).cell? ⟨w.heap.size + 1 + 1, 0, none⟩ = some (.int .u32 (c : Int)) from by simp [go_sem])
      have c1_5 : w1.cell? ⟨w.heap.size + 1 + 1, 1, none⟩ = some (.int .i64 k) := cell_on hb1 (show (((w.alloc (.cells #[.int .u32 (a : Int), .int .i64 n] 24)).alloc (.cells #[.int .u32 (b : Int), .int .i64 m] 24)).alloc (.cells #[.int .u32 (c : Int), .int .i64 k] 24)).cell? ⟨w.heap.size + 1 + 1, 1, none⟩ = some (.int .i64 k) from by simp [go_sem])
      have hw1 : Below w.heap.size w w1 := by (repeat (first | assumption | exact Below.refl _ _ | refine Below.drew ?_ | refine bel_drewN ?_ _ | refine Below.setCell ?_ (by first | omega | (simp; done) | (simp; omega)) _ | refine Below.alloc ?_ (by first | omega | (simp; done) | (simp; omega)) _ | refine bel_of ?_ (by assumption)))
      clear hb1
      go_wp2_with (fail)
      refine (rcheck_any b m _ hb).mono ?_
      rintro e w2 ⟨rfl, hb2⟩
      have hz2 := hb2.size
      (try simp at hz2)
      have hl2_0 : w.heap.size < w2.heap.size := by omega
      have hl2_1 : w.heap.size + 1 < w2.heap.size := by omega
      have hl2_2 : w.heap.size + 1 + 1 < w2.heap.size := by omega
      have c2_0 : w2.cell? ⟨w.heap.size, 0, none⟩ = some (.int .u32 (a : Int)) := cell_on hb2 c1_0
      have c2_1 : w2.cell? ⟨w.heap.size, 1, none⟩ = some (.int .i64 n) := cell_on hb2 c1_1
      have c2_2 : w2.cell? ⟨w.heap.size + 1, 0, none⟩ = some (.int .u32 (b : Int)) := cell_on hb2 c1_2
      have c2_3 : w2.cell? ⟨w.heap.size + 1, 1, none⟩ = some (.int .i64 m) := cell_on hb2 c1_3
      have c2_4 : w2.cell? ⟨w.heap.size + 1 + 1, 0, none⟩ = some (.int .u32 (c : Int)) := cell_on hb2 c1_4
      have c2_5 : w2.cell? ⟨w.heap.size + 1 + 1, 1, none⟩ = some (.int .i64 k) := cell_on hb2 c1_5
      have hw2 : Below w.heap.size w w2 := by (repeat (first | assumption | exact Below.refl _ _ | refine Below.drew ?_ | refine bel_drewN ?_ _ | refine Below.setCell ?_ (by first | omega | (simp; done) | (simp; omega)) _ | refine Below.alloc ?_ (by first | omega | (simp; done) | (simp; omega)) _ | refine bel_of ?_ (by assumption)))
      clear hb2 hz1 hl1_0 hl1_1 hl1_2 c1_0 c1_1 c1_2 c1_3 c1_4 c1_5 hw1
      go_wp2_with (fail)
      refine (awake_any _).mono ?_
      rintro e w3 ⟨rfl, hb3⟩
      have hz3 := hb3.size
      (try simp at hz3)
      have hl3_0 : w.heap.size < w3.heap.size := by omega
      have hl3_1 : w.heap.size + 1 < w3.heap.size := by omega
      have hl3_2 : w.heap.size + 1 + 1 < w3.heap.size := by omega
      have c3_0 : w3.cell? ⟨w.heap.size, 0, none⟩ = some (.int .u32 (a : Int)) := cell_on hb3 c2_0
      have c3_1 : w3.cell? ⟨w.heap.size, 1, none⟩ = some (.int .i64 n) := cell_on hb3 c2_1
      have c3_2 : w3.cell? ⟨w.heap.size + 1, 0, none⟩ = some (.int .u32 (b : Int)) := cell_on hb3 c2_2
      have c3_3 : w3.cell? ⟨w.heap.size + 1, 1, none⟩ = some (.int .i64 m) := cell_on hb3 c2_3
      have c3_4 : w3.cell? ⟨w.heap.size + 1 + 1, 0, none⟩ = some (.int .u32 (c : Int)) := cell_on hb3 c2_4
      have c3_5 : w3.cell? ⟨w.heap.size + 1 + 1, 1, none⟩ = some (.int .i64 k) := cell_on hb3 c2_5
      have hw3 : Below w.heap.size w w3 := by (repeat (first | assumption | exact Below.refl _ _ | refine Below.drew ?_ | refine bel_drewN ?_ _ | refine Below.setCell ?_ (by first | omega | (simp; done) | (simp; omega)) _ | refine Below.alloc ?_ (by first | omega | (simp; done) | (simp; omega)) _ | refine bel_of ?_ (by assumption)))
      clear hb3 hz2 hl2_0 hl2_1 hl2_2 c2_0 c2_1 c2_2 c2_3 c2_4 c2_5 hw2
      go_wp2_with (fail)
      go_ret
      exact ⟨rfl, by (repeat (first | assumption | exact Below.refl _ _ | refine Below.drew ?_ | refine bel_drewN ?_ _ | refine Below.setCell ?_ (by first | omega | (simp; done) | (simp; omega)) _ | refine Below.alloc ?_ (by first | omega | (simp; done) | (simp; omega)) _ | refine bel_of ?_ (by assumption)))⟩
  · have h3 : (chk a n != 0) = true := by simpa using h1
    clear h
    go_enter Try.func8, Try.ntmps8
    go_wp2_with (fail)
    refine (rcheck_any a n _ ha).mono ?_
    rintro e w1 ⟨rfl, hb1⟩
    have hz1 := hb1.size
    (try simp at hz1)
    have hl1_0 : w.heap.size < w1.heap.size := by omega
    have hl1_1 : w.heap.size + 1 < w1.heap.size := by omega
    have hl1_2 : w.heap.size + 1 + 1 < w1.heap.size := by omega
    have c1_0 : w1.cell? ⟨w.heap.size, 0, none⟩ = some (.int .u32 (a : Int)) := cell_on hb1 (show (((w.alloc (.cells #[.int .u32 (a : Int), .int .i64 n] 24)).alloc (.cells #[.int .u32 (b : Int), .int .i64 m] 24)).alloc (.cells #[.int .u32 (c : Int), .int .i64 k] 24)).cell? ⟨w.heap.size, 0, none⟩ = some (.int .u32 (a : Int)) from by simp [go_sem])
    have c1_1 : w1.cell? ⟨w.heap.size, 1, none⟩ = some (.int .i64 n) := cell_on hb1 (show (((w.alloc (.cells #[.int .u32 (a : Int), .int .i64 n] 24)).alloc (.cells #[.int .u32 (b : Int), .int .i64 m] 24)).alloc (.cells #[.int .u32 (c : Int), .int .i64 k] 24)).cell? ⟨w.heap.size, 1, none⟩ = some (.int .i64 n) from by simp [go_sem])
    have c1_2 : w1.cell? ⟨w.heap.size + 1, 0, none⟩ = some (.int .u32 (b : Int)) := cell_on hb1 (show (((w.alloc (.cells #[.int .u32 (a : Int), .int .i64 n] 24)).alloc (.cells #[.int .u32 (b : Int), .int .i64 m] 24)).alloc (.cells #[.int .u32 (c : Int), .int .i64 k] 24)).cell? ⟨w.heap.size + 1, 0, none⟩ = some (.int .u32 (b : Int)) from by simp [go_sem])
    have c1_3 : w1.cell? ⟨w.heap.size + 1, 1, none⟩ = some (.int .i64 m) := cell_on hb1 (show (((w.alloc (.cells #[.int .u32 (a : Int), .int .i64 n] 24)).alloc (.cells #[.int .u32 (b : Int), .int .i64 m] 24)).alloc (.cells #[.int .u32 (c : Int), .int .i64 k] 24)).cell? ⟨w.heap.size + 1, 1, none⟩ = some (.int .i64 m) from by simp [go_sem])
    have c1_4 : w1.cell? ⟨w.heap.size + 1 + 1, 0, none⟩ = some (.int .u32 (c : Int)) := cell_on hb1 (show (((w.alloc (.cells #[.int .u32 (a : Int), .int .i64 n] 24)).alloc (.cells #[.int .u32 (b : Int), .int .i64 m] 24)).alloc (.cells #[.int .u32 (c : Int), .int .i64 k] 24)).cell? ⟨w.heap.size + 1 + 1, 0, none⟩ = some (.int .u32 (c : Int)) from by simp [go_sem])
    have c1_5 : w1.cell? ⟨w.heap.size + 1 + 1, 1, none⟩ = some (.int .i64 k) := cell_on hb1 (show (((w.alloc (.cells #[.int .u32 (a : Int), .int .i64 n] 24)).alloc (.cells #[.int .u32 (b : Int), .int .i64 m] 24)).alloc (.cells #[.int .u32 (c : Int), .int .i64 k] 24)).cell? ⟨w.heap.size + 1 + 1, 1, none⟩ = some (.int .i64 k) from by simp [go_sem])
    have hw1 : Below w.heap.size w w1 := by (repeat (first | assumption | exact Below.refl _ _ | refine Below.drew ?_ | refine bel_drewN ?_ _ | refine Below.setCell ?_ (by first | omega | (simp; done) | (simp; omega)) _ | refine Below.alloc ?_ (by first | omega | (simp; done) | (simp; omega)) _ | refine bel_of ?_ (by assumption)))
    clear hb1
    go_wp2_with (fail)
    refine (awake_any _).mono ?_
    rintro e w2 ⟨rfl, hb2⟩
    have hz2 := hb2.size
    (try simp at hz2)
    have hl2_0 : w.heap.size < w2.heap.size := by omega
    have hl2_1 : w.heap.size + 1 < w2.heap.size := by omega
    have hl2_2 : w.heap.size + 1 + 1 < w2.heap.size := by omega
    have c2_0 : w2.cell? ⟨w.heap.size, 0, none⟩ = some (.int .u32 (a : Int)) := cell_on hb2 c1_0
    have c2_1 : w2.cell? ⟨w.heap.size, 1, none⟩ = some (.int .i64 n) := cell_on hb2 c1_1
    have c2_2 : w2.cell? ⟨w.heap.size + 1, 0, none⟩ = some (.int .u32 (b : Int)) := cell_on hb2 c1_2
    have c2_3 : w2.cell? ⟨w.heap.size + 1, 1, none⟩ = some (.int .i64 m) := cell_on hb2 c1_3
    have c2_4 : w2.cell? ⟨w.heap.size + 1 + 1, 0, none⟩ = some (.int .u32 (c : Int)) := cell_on hb2 c1_4
    have c2_5 : w2.cell? ⟨w.heap.size + 1 + 1, 1, none⟩ = some (.int .i64 k) := cell_on hb2 c1_5
    have hw2 : Below w.heap.size w w2 := by (repeat (first | assumption | exact Below.refl _ _ | refine Below.drew ?_ | refine bel_drewN ?_ _ | refine Below.setCell ?_ (by first | omega | (simp; done) | (simp; omega)) _ | refine Below.alloc ?_ (by first | omega | (simp; done) | (simp; omega)) _ | refine bel_of ?_ (by assumption)))
    clear hb2 hz1 hl1_0 hl1_1 hl1_2 c1_0 c1_1 c1_2 c1_3 c1_4 c1_5 hw1
    go_wp2_with (fail)
    go_ret
    exact ⟨rfl, by (repeat (first | assumption | exact Below.refl _ _ | refine Below.drew ?_ | refine bel_drewN ?_ _ | refine Below.setCell ?_ (by first | omega | (simp; done) | (simp; omega)) _ | refine Below.alloc ?_ (by first | omega | (simp; done) | (simp; omega)) _ | refine bel_of ?_ (by assumption)))⟩
set_option maxRecDepth 100000 in
set_option maxHeartbeats 16000000 in
theorem nests_good (a n b m c k : Nat) (ha : a < 4294967296) (hb : b < 4294967296) (hc : c < 4294967296) (hn : n ≤ 32) (hm : m ≤ 32) (hk : k ≤ 32) (h0 : a % bk n = 0) (k0 : b % bk m = 0) (l0 : c % bk k = 0) (w : World) :
    Calls Try.prog 8 #[.agg #[.int .u32 a, .int .i64 n], .agg #[.int .u32 b, .int .i64 m], .agg #[.int .u32 c, .int .i64 k]] w fun e w' => e = .returned (.bool true) ∧ Below w.heap.size w w' := by
  have ka := chk_in a n hn h0
  have kb := chk_in b m hm k0
  have kc := chk_in c k hk l0
  obtain ⟨HA, eHA⟩ : ∃ z, z = hi a n := ⟨_, rfl⟩
  obtain ⟨HB, eHB⟩ : ∃ z, z = hi b m := ⟨_, rfl⟩
  obtain ⟨ab, eab⟩ : ∃ t, t = witB a n b m := ⟨_, rfl⟩
  obtain ⟨ba, eba⟩ : ∃ t, t = witB b m a n := ⟨_, rfl⟩
  obtain ⟨bc, ebc⟩ : ∃ t, t = witB b m c k := ⟨_, rfl⟩
  obtain ⟨ac, eac⟩ : ∃ t, t = witB a n c k := ⟨_, rfl⟩
  obtain ⟨ap, eap⟩ : ∃ t, t = decide (HA < b ∨ HB < a) := ⟨_, rfl⟩
  obtain ⟨K, eK⟩ : ∃ z, z = cl a n b m := ⟨_, rfl⟩
  obtain ⟨P, eP⟩ : ∃ z, z = ct a K := ⟨_, rfl⟩
  have hP : P < 4294967296 := by rw [eP]; exact ct_lt _ _ ha
  have h1 := le_hi a n
  have h2 := le_hi b m
  have Fab : Hid (ab = true ↔ b ≤ a ∧ HA ≤ HB) := by rw [eab, eHA, eHB]; exact wit_runs a n b m hn hm h0 k0
  have Fba : Hid (ba = true ↔ a ≤ b ∧ HB ≤ HA) := by rw [eba, eHA, eHB]; exact wit_runs b m a n hm hn k0 h0
  have Fap : Hid (ap = true ↔ (HA < b ∨ HB < a)) := by rw [eap]; exact ⟨of_decide_eq_true, decide_eq_true⟩
  have Fapart : Hid (ab = false → ba = false → (HA < b ∨ HB < a)) := by rw [eab, eba, eHA, eHB]; exact wit_apart a n b m hn hm h0 k0
  have Feq : Hid (ab = true → ba = true → a = b ∧ n = m) := by rw [eab, eba]; exact wit_both a n b m hn hm h0 k0
  have Fne : Hid (a = b ∧ n = m → ab = true ∧ ba = true) := by rintro ⟨rfl, rfl⟩; rw [eab, eba]; exact ⟨wit_self a n hn h0, wit_self a n hn h0⟩
  have Fac : Hid (ab = true → bc = true → ac = true) := by rw [eab, ebc, eac]; exact wit_trans a n b m c k hn hm hk h0 k0 l0
  have hh := com_holds a n b m ha hb hn hm h0 k0
  have hl := com_least a n b m c k ha hb hn hm hk h0 k0 l0
  rw [← eK, ← eP] at hh hl
  rw [← eac, ← ebc] at hl
  have hrunA : ∀ w1 : World, Calls Try.prog 11 #[.agg #[.int .u32 a, .int .i64 n]] w1 fun e w' => e = .returned (.tuple #[.agg #[.int .u32 (a : Int), .int .u32 (HA : Int)], .int .i64 0]) ∧ Below w1.heap.size w1 w' := fun w1 => by
    have := run_any a n w1 ha
    rw [show rL a n = a by simp [rL, ka], show rH a n = HA by simp [rH, ka, eHA, hi], ka] at this
    exact this
  have hrunB : ∀ w1 : World, Calls Try.prog 11 #[.agg #[.int .u32 b, .int .i64 m]] w1 fun e w' => e = .returned (.tuple #[.agg #[.int .u32 (b : Int), .int .u32 (HB : Int)], .int .i64 0]) ∧ Below w1.heap.size w1 w' := fun w1 => by
    have := run_any b m w1 hb
    rw [show rL b m = b by simp [rL, kb], show rH b m = HB by simp [rH, kb, eHB, hi], kb] at this
    exact this
  have hcom : ∀ w1 : World, Calls Try.prog 20 #[.agg #[.int .u32 a, .int .i64 n], .agg #[.int .u32 b, .int .i64 m]] w1 fun e w' => e = .returned (.tuple #[.agg #[.int .u32 P, .int .i64 K], .int .i64 0]) ∧ Below w1.heap.size w1 w' := fun w1 => by
    rw [eP, eK]; exact common_yes a n b m w1 ha hb hn hm ka kb
  have hWab : ∀ w1 : World, Calls Try.prog 22 #[.agg #[.int .u32 a, .int .i64 n], .agg #[.int .u32 b, .int .i64 m]] w1 fun e w' => e = .returned (.bool ab) ∧ Below w1.heap.size w1 w' := fun w1 => by rw [eab]; exact within_any a n b m w1 ha hb
  have hWba : ∀ w1 : World, Calls Try.prog 22 #[.agg #[.int .u32 b, .int .i64 m], .agg #[.int .u32 a, .int .i64 n]] w1 fun e w' => e = .returned (.bool ba) ∧ Below w1.heap.size w1 w' := fun w1 => by rw [eba]; exact within_any b m a n w1 hb ha
  have hWbc : ∀ w1 : World, Calls Try.prog 22 #[.agg #[.int .u32 b, .int .i64 m], .agg #[.int .u32 c, .int .i64 k]] w1 fun e w' => e = .returned (.bool bc) ∧ Below w1.heap.size w1 w' := fun w1 => by rw [ebc]; exact within_any b m c k w1 hb hc
  have hWac : ∀ w1 : World, Calls Try.prog 22 #[.agg #[.int .u32 a, .int .i64 n], .agg #[.int .u32 c, .int .i64 k]] w1 fun e w' => e = .returned (.bool ac) ∧ Below w1.heap.size w1 w' := fun w1 => by rw [eac]; exact within_any a n c k w1 ha hc
  have hWap : ∀ w1 : World, Calls Try.prog 22 #[.agg #[.int .u32 a, .int .i64 n], .agg #[.int .u32 P, .int .i64 K]] w1 fun e w' => e = .returned (.bool true) ∧ Below w1.heap.size w1 w' := fun w1 => by rw [← hh.1]; exact within_any a n P K w1 ha hP
  have hWbp : ∀ w1 : World, Calls Try.prog 22 #[.agg #[.int .u32 b, .int .i64 m], .agg #[.int .u32 P, .int .i64 K]] w1 fun e w' => e = .returned (.bool true) ∧ Below w1.heap.size w1 w' := fun w1 => by rw [← hh.2]; exact within_any b m P K w1 hb hP
  have hWpc : ∀ w1 : World, Calls Try.prog 22 #[.agg #[.int .u32 P, .int .i64 K], .agg #[.int .u32 c, .int .i64 k]] w1 fun e w' => e = .returned (.bool (ac && bc)) ∧ Below w1.heap.size w1 w' := fun w1 => by rw [← hl]; exact within_any P K c k w1 hP hc
  rw [← eHA] at h1
  rw [← eHB] at h2
  clear eHA eHB eab eba ebc eac eap eK eP hh hl hP h0 k0 l0
  go_enter Try.func8, Try.ntmps8
  go_wp2_with (fail)
  refine (rcheck_any a n _ ha).mono ?_
  rintro e w1 ⟨rfl, hb1⟩
  have hz1 := hb1.size
  (try simp at hz1)
  have hl1_0 : w.heap.size < w1.heap.size := by omega
  have hl1_1 : w.heap.size + 1 < w1.heap.size := by omega
  have hl1_2 : w.heap.size + 1 + 1 < w1.heap.size := by omega
  have c1_0 : w1.cell? ⟨w.heap.size, 0, none⟩ = some (.int .u32 (a : Int)) := cell_on hb1 (show (((w.alloc (.cells #[.int .u32 (a : Int), .int .i64 (n : Int)] 24)).alloc (.cells #[.int .u32 (b : Int), .int .i64 (m : Int)] 24)).alloc (.cells #[.int .u32 (c : Int), .int .i64 (k : Int)] 24)).cell? ⟨w.heap.size, 0, none⟩ = some (.int .u32 (a : Int)) from by simp [go_sem])
  have c1_1 : w1.cell? ⟨w.heap.size, 1, none⟩ = some (.int .i64 (n : Int)) := cell_on hb1 (show (((w.alloc (.cells #[.int .u32 (a : Int), .int .i64 (n : Int)] 24)).alloc (.cells #[.int .u32 (b : Int), .int .i64 (m : Int)] 24)).alloc (.cells #[.int .u32 (c : Int), .int .i64 (k : Int)] 24)).cell? ⟨w.heap.size, 1, none⟩ = some (.int .i64 (n : Int)) from by simp [go_sem])
  have c1_2 : w1.cell? ⟨w.heap.size + 1, 0, none⟩ = some (.int .u32 (b : Int)) := cell_on hb1 (show (((w.alloc (.cells #[.int .u32 (a : Int), .int .i64 (n : Int)] 24)).alloc (.cells #[.int .u32 (b : Int), .int .i64 (m : Int)] 24)).alloc (.cells #[.int .u32 (c : Int), .int .i64 (k : Int)] 24)).cell? ⟨w.heap.size + 1, 0, none⟩ = some (.int .u32 (b : Int)) from by simp [go_sem])
  have c1_3 : w1.cell? ⟨w.heap.size + 1, 1, none⟩ = some (.int .i64 (m : Int)) := cell_on hb1 (show (((w.alloc (.cells #[.int .u32 (a : Int), .int .i64 (n : Int)] 24)).alloc (.cells #[.int .u32 (b : Int), .int .i64 (m : Int)] 24)).alloc (.cells #[.int .u32 (c : Int), .int .i64 (k : Int)] 24)).cell? ⟨w.heap.size + 1, 1, none⟩ = some (.int .i64 (m : Int)) from by simp [go_sem])
  have c1_4 : w1.cell? ⟨w.heap.size + 1 + 1, 0, none⟩ = some (.int .u32 (c : Int)) := cell_on hb1 (show (((w.alloc (.cells #[.int .u32 (a : Int), .int .i64 (n : Int)] 24)).alloc (.cells #[.int .u32 (b : Int), .int .i64 (m : Int)] 24)).alloc (.cells #[.int .u32 (c : Int), .int .i64 (k : Int)] 24)).cell? ⟨w.heap.size + 1 + 1, 0, none⟩ = some (.int .u32 (c : Int)) from by simp [go_sem])
  have c1_5 : w1.cell? ⟨w.heap.size + 1 + 1, 1, none⟩ = some (.int .i64 (k : Int)) := cell_on hb1 (show (((w.alloc (.cells #[.int .u32 (a : Int), .int .i64 (n : Int)] 24)).alloc (.cells #[.int .u32 (b : Int), .int .i64 (m : Int)] 24)).alloc (.cells #[.int .u32 (c : Int), .int .i64 (k : Int)] 24)).cell? ⟨w.heap.size + 1 + 1, 1, none⟩ = some (.int .i64 (k : Int)) from by simp [go_sem])
  have hw1 : Below w.heap.size w w1 := by (repeat (first | assumption | exact Below.refl _ _ | refine Below.drew ?_ | refine bel_drewN ?_ _ | refine Below.setCell ?_ (by first | omega | (simp; done) | (simp; omega)) _ | refine Below.alloc ?_ (by first | omega | (simp; done) | (simp; omega)) _ | refine bel_of ?_ (by assumption)))
  clear hb1
  go_wp2_with (fail)
  refine (rcheck_any b m _ hb).mono ?_
  rintro e w2 ⟨rfl, hb2⟩
  have hz2 := hb2.size
  (try simp at hz2)
  have hl2_0 : w.heap.size < w2.heap.size := by omega
  have hl2_1 : w.heap.size + 1 < w2.heap.size := by omega
  have hl2_2 : w.heap.size + 1 + 1 < w2.heap.size := by omega
  have c2_0 : w2.cell? ⟨w.heap.size, 0, none⟩ = some (.int .u32 (a : Int)) := cell_on hb2 c1_0
  have c2_1 : w2.cell? ⟨w.heap.size, 1, none⟩ = some (.int .i64 (n : Int)) := cell_on hb2 c1_1
  have c2_2 : w2.cell? ⟨w.heap.size + 1, 0, none⟩ = some (.int .u32 (b : Int)) := cell_on hb2 c1_2
  have c2_3 : w2.cell? ⟨w.heap.size + 1, 1, none⟩ = some (.int .i64 (m : Int)) := cell_on hb2 c1_3
  have c2_4 : w2.cell? ⟨w.heap.size + 1 + 1, 0, none⟩ = some (.int .u32 (c : Int)) := cell_on hb2 c1_4
  have c2_5 : w2.cell? ⟨w.heap.size + 1 + 1, 1, none⟩ = some (.int .i64 (k : Int)) := cell_on hb2 c1_5
  have hw2 : Below w.heap.size w w2 := by (repeat (first | assumption | exact Below.refl _ _ | refine Below.drew ?_ | refine bel_drewN ?_ _ | refine Below.setCell ?_ (by first | omega | (simp; done) | (simp; omega)) _ | refine Below.alloc ?_ (by first | omega | (simp; done) | (simp; omega)) _ | refine bel_of ?_ (by assumption)))
  clear hb2 hz1 hl1_0 hl1_1 hl1_2 c1_0 c1_1 c1_2 c1_3 c1_4 c1_5 hw1
  go_wp2_with (fail)
  refine (rcheck_any c k _ hc).mono ?_
  rintro e w3 ⟨rfl, hb3⟩
  have hz3 := hb3.size
  (try simp at hz3)
  have hl3_0 : w.heap.size < w3.heap.size := by omega
  have hl3_1 : w.heap.size + 1 < w3.heap.size := by omega
  have hl3_2 : w.heap.size + 1 + 1 < w3.heap.size := by omega
  have c3_0 : w3.cell? ⟨w.heap.size, 0, none⟩ = some (.int .u32 (a : Int)) := cell_on hb3 c2_0
  have c3_1 : w3.cell? ⟨w.heap.size, 1, none⟩ = some (.int .i64 (n : Int)) := cell_on hb3 c2_1
  have c3_2 : w3.cell? ⟨w.heap.size + 1, 0, none⟩ = some (.int .u32 (b : Int)) := cell_on hb3 c2_2
  have c3_3 : w3.cell? ⟨w.heap.size + 1, 1, none⟩ = some (.int .i64 (m : Int)) := cell_on hb3 c2_3
  have c3_4 : w3.cell? ⟨w.heap.size + 1 + 1, 0, none⟩ = some (.int .u32 (c : Int)) := cell_on hb3 c2_4
  have c3_5 : w3.cell? ⟨w.heap.size + 1 + 1, 1, none⟩ = some (.int .i64 (k : Int)) := cell_on hb3 c2_5
  have hw3 : Below w.heap.size w w3 := by (repeat (first | assumption | exact Below.refl _ _ | refine Below.drew ?_ | refine bel_drewN ?_ _ | refine Below.setCell ?_ (by first | omega | (simp; done) | (simp; omega)) _ | refine Below.alloc ?_ (by first | omega | (simp; done) | (simp; omega)) _ | refine bel_of ?_ (by assumption)))
  clear hb3 hz2 hl2_0 hl2_1 hl2_2 c2_0 c2_1 c2_2 c2_3 c2_4 c2_5 hw2
  go_wp2_with (fail)
  refine (hrunA _).mono ?_
  rintro e w4 ⟨rfl, hb4⟩
  have hz4 := hb4.size
  (try simp at hz4)
  have hl4_0 : w.heap.size < w4.heap.size := by omega
  have hl4_1 : w.heap.size + 1 < w4.heap.size := by omega
  have hl4_2 : w.heap.size + 1 + 1 < w4.heap.size := by omega
  have c4_0 : w4.cell? ⟨w.heap.size, 0, none⟩ = some (.int .u32 (a : Int)) := cell_on hb4 c3_0
  have c4_1 : w4.cell? ⟨w.heap.size, 1, none⟩ = some (.int .i64 (n : Int)) := cell_on hb4 c3_1
  have c4_2 : w4.cell? ⟨w.heap.size + 1, 0, none⟩ = some (.int .u32 (b : Int)) := cell_on hb4 c3_2
  have c4_3 : w4.cell? ⟨w.heap.size + 1, 1, none⟩ = some (.int .i64 (m : Int)) := cell_on hb4 c3_3
  have c4_4 : w4.cell? ⟨w.heap.size + 1 + 1, 0, none⟩ = some (.int .u32 (c : Int)) := cell_on hb4 c3_4
  have c4_5 : w4.cell? ⟨w.heap.size + 1 + 1, 1, none⟩ = some (.int .i64 (k : Int)) := cell_on hb4 c3_5
  have hw4 : Below w.heap.size w w4 := by (repeat (first | assumption | exact Below.refl _ _ | refine Below.drew ?_ | refine bel_drewN ?_ _ | refine Below.setCell ?_ (by first | omega | (simp; done) | (simp; omega)) _ | refine Below.alloc ?_ (by first | omega | (simp; done) | (simp; omega)) _ | refine bel_of ?_ (by assumption)))
  clear hb4 hz3 hl3_0 hl3_1 hl3_2 c3_0 c3_1 c3_2 c3_3 c3_4 c3_5 hw3
  go_wp2_with (fail)
  refine (hrunB _).mono ?_
  rintro e w5 ⟨rfl, hb5⟩
  have hz5 := hb5.size
  (try simp at hz5)
  have hl5_0 : w.heap.size < w5.heap.size := by omega
  have hl5_1 : w.heap.size + 1 < w5.heap.size := by omega
  have hl5_2 : w.heap.size + 1 + 1 < w5.heap.size := by omega
  have hl5_3 : w4.heap.size < w5.heap.size := by omega
  have c5_0 : w5.cell? ⟨w.heap.size, 0, none⟩ = some (.int .u32 (a : Int)) := cell_on hb5 (cell_alloc c4_0)
  have c5_1 : w5.cell? ⟨w.heap.size, 1, none⟩ = some (.int .i64 (n : Int)) := cell_on hb5 (cell_alloc c4_1)
  have c5_2 : w5.cell? ⟨w.heap.size + 1, 0, none⟩ = some (.int .u32 (b : Int)) := cell_on hb5 (cell_alloc c4_2)
  have c5_3 : w5.cell? ⟨w.heap.size + 1, 1, none⟩ = some (.int .i64 (m : Int)) := cell_on hb5 (cell_alloc c4_3)
  have c5_4 : w5.cell? ⟨w.heap.size + 1 + 1, 0, none⟩ = some (.int .u32 (c : Int)) := cell_on hb5 (cell_alloc c4_4)
  have c5_5 : w5.cell? ⟨w.heap.size + 1 + 1, 1, none⟩ = some (.int .i64 (k : Int)) := cell_on hb5 (cell_alloc c4_5)
  have c5_6 : w5.cell? ⟨w4.heap.size, 0, none⟩ = some (.int .u32 (a : Int)) := cell_on hb5 (show (w4.alloc (.cells #[.int .u32 (a : Int), .int .u32 (HA : Int)] 29)).cell? ⟨w4.heap.size, 0, none⟩ = some (.int .u32 (a : Int)) from by simp [go_sem])
  have c5_7 : w5.cell? ⟨w4.heap.size, 1, none⟩ = some (.int .u32 (HA : Int)) := cell_on hb5 (show (w4.alloc (.cells #[.int .u32 (a : Int), .int .u32 (HA : Int)] 29)).cell? ⟨w4.heap.size, 1, none⟩ = some (.int .u32 (HA : Int)) from by simp [go_sem])
  have hw5 : Below w.heap.size w w5 := by (repeat (first | assumption | exact Below.refl _ _ | refine Below.drew ?_ | refine bel_drewN ?_ _ | refine Below.setCell ?_ (by first | omega | (simp; done) | (simp; omega)) _ | refine Below.alloc ?_ (by first | omega | (simp; done) | (simp; omega)) _ | refine bel_of ?_ (by assumption)))
  clear hb5 hz4 hl4_0 hl4_1 hl4_2 c4_0 c4_1 c4_2 c4_3 c4_4 c4_5 hw4
  go_upto_region 5 with (fail)
  go_cut [11] (fun s wx => s = .bool ap ∧ wx = (w5.alloc (.cells #[.int .u32 (b : Int), .int .u32 (HB : Int)] 29)))
  case first =>
    as_aux_lemma =>
      by_cases p1 : HA < b
      · skip
        have q1 : (HA : Int) < (b : Int) := by omega
        have d1 : decide ((HA : Int) < (b : Int)) = true := decide_eq_true q1
        obtain rfl : ap = true := Fap.out.2 (.inl p1)
        go_wp2
        go_meet
        case rel => exact ⟨rfl, rfl⟩
      · skip
        have q1 : ¬ (HA : Int) < (b : Int) := by omega
        have d1 : decide ((HA : Int) < (b : Int)) = false := decide_eq_false q1
        by_cases p2 : HB < a
        · skip
          have q2 : (HB : Int) < (a : Int) := by omega
          have d2 : decide ((HB : Int) < (a : Int)) = true := decide_eq_true q2
          obtain rfl : ap = true := Fap.out.2 (.inr p2)
          go_wp2
          go_meet
          case rel => exact ⟨rfl, rfl⟩
        · skip
          have q2 : ¬ (HB : Int) < (a : Int) := by omega
          have d2 : decide ((HB : Int) < (a : Int)) = false := decide_eq_false q2
          obtain rfl : ap = false := no_of Fap.out (by omega)
          go_wp2
          go_meet
          case rel => exact ⟨rfl, rfl⟩
  case rest =>
    obtain ⟨rfl, hwx⟩ := hcut; obtain rfl := hwx.symm; clear hwx
    go_wp2_with (fail)
    refine (hWab _).mono ?_
    rintro e w6 ⟨rfl, hb6⟩
    have hz6 := hb6.size
    (try simp at hz6)
    have hl6_0 : w.heap.size < w6.heap.size := by omega
    have hl6_1 : w.heap.size + 1 < w6.heap.size := by omega
    have hl6_2 : w.heap.size + 1 + 1 < w6.heap.size := by omega
    have hl6_3 : w4.heap.size < w6.heap.size := by omega
    have hl6_4 : w5.heap.size < w6.heap.size := by omega
    have c6_0 : w6.cell? ⟨w.heap.size, 0, none⟩ = some (.int .u32 (a : Int)) := cell_on hb6 (cell_alloc c5_0)
    have c6_1 : w6.cell? ⟨w.heap.size, 1, none⟩ = some (.int .i64 (n : Int)) := cell_on hb6 (cell_alloc c5_1)
    have c6_2 : w6.cell? ⟨w.heap.size + 1, 0, none⟩ = some (.int .u32 (b : Int)) := cell_on hb6 (cell_alloc c5_2)
    have c6_3 : w6.cell? ⟨w.heap.size + 1, 1, none⟩ = some (.int .i64 (m : Int)) := cell_on hb6 (cell_alloc c5_3)
    have c6_4 : w6.cell? ⟨w.heap.size + 1 + 1, 0, none⟩ = some (.int .u32 (c : Int)) := cell_on hb6 (cell_alloc c5_4)
    have c6_5 : w6.cell? ⟨w.heap.size + 1 + 1, 1, none⟩ = some (.int .i64 (k : Int)) := cell_on hb6 (cell_alloc c5_5)
    have c6_6 : w6.cell? ⟨w4.heap.size, 0, none⟩ = some (.int .u32 (a : Int)) := cell_on hb6 (cell_alloc c5_6)
    have c6_7 : w6.cell? ⟨w4.heap.size, 1, none⟩ = some (.int .u32 (HA : Int)) := cell_on hb6 (cell_alloc c5_7)
    have c6_8 : w6.cell? ⟨w5.heap.size, 0, none⟩ = some (.int .u32 (b : Int)) := cell_on hb6 (show (w5.alloc (.cells #[.int .u32 (b : Int), .int .u32 (HB : Int)] 29)).cell? ⟨w5.heap.size, 0, none⟩ = some (.int .u32 (b : Int)) from by simp [go_sem])
    have c6_9 : w6.cell? ⟨w5.heap.size, 1, none⟩ = some (.int .u32 (HB : Int)) := cell_on hb6 (show (w5.alloc (.cells #[.int .u32 (b : Int), .int .u32 (HB : Int)] 29)).cell? ⟨w5.heap.size, 1, none⟩ = some (.int .u32 (HB : Int)) from by simp [go_sem])
    have hw6 : Below w.heap.size w w6 := by (repeat (first | assumption | exact Below.refl _ _ | refine Below.drew ?_ | refine bel_drewN ?_ _ | refine Below.setCell ?_ (by first | omega | (simp; done) | (simp; omega)) _ | refine Below.alloc ?_ (by first | omega | (simp; done) | (simp; omega)) _ | refine bel_of ?_ (by assumption)))
    clear hb6 hz5 hl5_0 hl5_1 hl5_2 hl5_3 c5_0 c5_1 c5_2 c5_3 c5_4 c5_5 c5_6 c5_7 hw5
    go_wp2_with (fail)
    refine (hWba _).mono ?_
    rintro e w7 ⟨rfl, hb7⟩
    have hz7 := hb7.size
    (try simp at hz7)
    have hl7_0 : w.heap.size < w7.heap.size := by omega
    have hl7_1 : w.heap.size + 1 < w7.heap.size := by omega
    have hl7_2 : w.heap.size + 1 + 1 < w7.heap.size := by omega
    have hl7_3 : w4.heap.size < w7.heap.size := by omega
    have hl7_4 : w5.heap.size < w7.heap.size := by omega
    have c7_0 : w7.cell? ⟨w.heap.size, 0, none⟩ = some (.int .u32 (a : Int)) := cell_on hb7 c6_0
    have c7_1 : w7.cell? ⟨w.heap.size, 1, none⟩ = some (.int .i64 (n : Int)) := cell_on hb7 c6_1
    have c7_2 : w7.cell? ⟨w.heap.size + 1, 0, none⟩ = some (.int .u32 (b : Int)) := cell_on hb7 c6_2
    have c7_3 : w7.cell? ⟨w.heap.size + 1, 1, none⟩ = some (.int .i64 (m : Int)) := cell_on hb7 c6_3
    have c7_4 : w7.cell? ⟨w.heap.size + 1 + 1, 0, none⟩ = some (.int .u32 (c : Int)) := cell_on hb7 c6_4
    have c7_5 : w7.cell? ⟨w.heap.size + 1 + 1, 1, none⟩ = some (.int .i64 (k : Int)) := cell_on hb7 c6_5
    have c7_6 : w7.cell? ⟨w4.heap.size, 0, none⟩ = some (.int .u32 (a : Int)) := cell_on hb7 c6_6
    have c7_7 : w7.cell? ⟨w4.heap.size, 1, none⟩ = some (.int .u32 (HA : Int)) := cell_on hb7 c6_7
    have c7_8 : w7.cell? ⟨w5.heap.size, 0, none⟩ = some (.int .u32 (b : Int)) := cell_on hb7 c6_8
    have c7_9 : w7.cell? ⟨w5.heap.size, 1, none⟩ = some (.int .u32 (HB : Int)) := cell_on hb7 c6_9
    have hw7 : Below w.heap.size w w7 := by (repeat (first | assumption | exact Below.refl _ _ | refine Below.drew ?_ | refine bel_drewN ?_ _ | refine Below.setCell ?_ (by first | omega | (simp; done) | (simp; omega)) _ | refine Below.alloc ?_ (by first | omega | (simp; done) | (simp; omega)) _ | refine bel_of ?_ (by assumption)))
    clear hb7 hz6 hl6_0 hl6_1 hl6_2 hl6_3 hl6_4 c6_0 c6_1 c6_2 c6_3 c6_4 c6_5 c6_6 c6_7 c6_8 c6_9 hw6
    go_upto_region 8 with (fail)
    go_cut [14] (fun s wx => s = .bool true ∧ wx = w7)
    case first =>
      as_aux_lemma =>
        by_cases p1 : b ≤ a
        · skip
          have q1 : (b : Int) ≤ (a : Int) := by omega
          have d1 : decide ((b : Int) ≤ (a : Int)) = true := decide_eq_true q1
          by_cases p2 : HA ≤ HB
          · skip
            have q2 : (HA : Int) ≤ (HB : Int) := by omega
            have d2 : decide ((HA : Int) ≤ (HB : Int)) = true := decide_eq_true q2
            obtain rfl : ab = true := Fab.out.2 ⟨p1, p2⟩
            by_cases p3 : a ≤ b
            · skip
              have q3 : (a : Int) ≤ (b : Int) := by omega
              have d3 : decide ((a : Int) ≤ (b : Int)) = true := decide_eq_true q3
              by_cases p4 : HB ≤ HA
              · skip
                have q4 : (HB : Int) ≤ (HA : Int) := by omega
                have d4 : decide ((HB : Int) ≤ (HA : Int)) = true := decide_eq_true q4
                obtain rfl : ba = true := Fba.out.2 ⟨p3, p4⟩
                go_wp2
                go_meet
                case rel => exact ⟨rfl, rfl⟩
              · skip
                have q4 : ¬ (HB : Int) ≤ (HA : Int) := by omega
                have d4 : decide ((HB : Int) ≤ (HA : Int)) = false := decide_eq_false q4
                obtain rfl : ba = false := no_of Fba.out (by omega)
                go_wp2
                go_meet
                case rel => exact ⟨rfl, rfl⟩
            · skip
              have q3 : ¬ (a : Int) ≤ (b : Int) := by omega
              have d3 : decide ((a : Int) ≤ (b : Int)) = false := decide_eq_false q3
              obtain rfl : ba = false := no_of Fba.out (by omega)
              go_wp2
              go_meet
              case rel => exact ⟨rfl, rfl⟩
          · skip
            have q2 : ¬ (HA : Int) ≤ (HB : Int) := by omega
            have d2 : decide ((HA : Int) ≤ (HB : Int)) = false := decide_eq_false q2
            obtain rfl : ab = false := no_of Fab.out (by omega)
            by_cases p3 : a ≤ b
            · skip
              have q3 : (a : Int) ≤ (b : Int) := by omega
              have d3 : decide ((a : Int) ≤ (b : Int)) = true := decide_eq_true q3
              by_cases p4 : HB ≤ HA
              · skip
                have q4 : (HB : Int) ≤ (HA : Int) := by omega
                have d4 : decide ((HB : Int) ≤ (HA : Int)) = true := decide_eq_true q4
                obtain rfl : ba = true := Fba.out.2 ⟨p3, p4⟩
                go_wp2
                go_meet
                case rel => exact ⟨rfl, rfl⟩
              · skip
                have q4 : ¬ (HB : Int) ≤ (HA : Int) := by omega
                have d4 : decide ((HB : Int) ≤ (HA : Int)) = false := decide_eq_false q4
                obtain rfl : ba = false := no_of Fba.out (by omega)
                exfalso; omega
            · skip
              have q3 : ¬ (a : Int) ≤ (b : Int) := by omega
              have d3 : decide ((a : Int) ≤ (b : Int)) = false := decide_eq_false q3
              obtain rfl : ba = false := no_of Fba.out (by omega)
              go_wp2
              go_meet
              case rel => exact ⟨rfl, rfl⟩
        · skip
          have q1 : ¬ (b : Int) ≤ (a : Int) := by omega
          have d1 : decide ((b : Int) ≤ (a : Int)) = false := decide_eq_false q1
          obtain rfl : ab = false := no_of Fab.out (by omega)
          by_cases p3 : a ≤ b
          · skip
            have q3 : (a : Int) ≤ (b : Int) := by omega
            have d3 : decide ((a : Int) ≤ (b : Int)) = true := decide_eq_true q3
            by_cases p4 : HB ≤ HA
            · skip
              have q4 : (HB : Int) ≤ (HA : Int) := by omega
              have d4 : decide ((HB : Int) ≤ (HA : Int)) = true := decide_eq_true q4
              obtain rfl : ba = true := Fba.out.2 ⟨p3, p4⟩
              go_wp2
              go_meet
              case rel => exact ⟨rfl, rfl⟩
            · skip
              have q4 : ¬ (HB : Int) ≤ (HA : Int) := by omega
              have d4 : decide ((HB : Int) ≤ (HA : Int)) = false := decide_eq_false q4
              obtain rfl : ba = false := no_of Fba.out (by omega)
              go_wp2
              go_meet
              case rel => exact ⟨rfl, rfl⟩
          · skip
            have q3 : ¬ (a : Int) ≤ (b : Int) := by omega
            have d3 : decide ((a : Int) ≤ (b : Int)) = false := decide_eq_false q3
            obtain rfl : ba = false := no_of Fba.out (by omega)
            exfalso; omega
    case rest =>
      obtain ⟨rfl, hwx⟩ := hcut; obtain rfl := hwx.symm; clear hwx
      go_upto_region 9 with (fail)
      go_cut [15] (fun s wx => s = .bool true ∧ Below w7.heap.size w7 wx)
      case first =>
        as_aux_lemma =>
          cases ab with
          | true =>
            cases ba with
            | true =>
              obtain ⟨rfl, rfl⟩ := Feq.out rfl rfl
              cases bc with
              | false =>
                go_wp2_with (fail)
                refine (hWbc _).mono ?_
                rintro e wr ⟨rfl, hbr⟩
                go_wp2
                go_meet
                case rel => exact ⟨rfl, hbr⟩
              | true =>
                obtain rfl : ac = true := Fac.out rfl rfl
                go_wp2_with (fail)
                refine (hWbc _).mono ?_
                rintro e wr ⟨rfl, hbr⟩
                have hzr := hbr.size
                have r0 : wr.cell? ⟨w.heap.size, 0, none⟩ = some (.int .u32 (a : Int)) := cell_on hbr c7_0
                have r1 : wr.cell? ⟨w.heap.size, 1, none⟩ = some (.int .i64 (n : Int)) := cell_on hbr c7_1
                have r4 : wr.cell? ⟨w.heap.size + 1 + 1, 0, none⟩ = some (.int .u32 (c : Int)) := cell_on hbr c7_4
                have r5 : wr.cell? ⟨w.heap.size + 1 + 1, 1, none⟩ = some (.int .i64 (k : Int)) := cell_on hbr c7_5
                go_wp2_with (fail)
                refine (hWac _).mono ?_
                rintro e ws ⟨rfl, hbs⟩
                go_wp2
                go_meet
                case rel => exact ⟨rfl, hbr.trans (hbs.mono hbr.size)⟩
            | false =>
              by_cases ea : a = b
              · skip
                subst ea
                have en : ¬ (n : Int) = (m : Int) := fun e => by have := Fne.out ⟨rfl, by omega⟩; simp at this
                have en2 : ((n : Int) == (m : Int)) = false := by rw [beq_eq_false_iff_ne]; exact en
                cases bc with
                | false =>
                  go_wp2_with (fail)
                  refine (hWbc _).mono ?_
                  rintro e wr ⟨rfl, hbr⟩
                  go_wp2
                  go_meet
                  case rel => exact ⟨rfl, hbr⟩
                | true =>
                  obtain rfl : ac = true := Fac.out rfl rfl
                  go_wp2_with (fail)
                  refine (hWbc _).mono ?_
                  rintro e wr ⟨rfl, hbr⟩
                  have hzr := hbr.size
                  have r0 : wr.cell? ⟨w.heap.size, 0, none⟩ = some (.int .u32 (a : Int)) := cell_on hbr c7_0
                  have r1 : wr.cell? ⟨w.heap.size, 1, none⟩ = some (.int .i64 (n : Int)) := cell_on hbr c7_1
                  have r4 : wr.cell? ⟨w.heap.size + 1 + 1, 0, none⟩ = some (.int .u32 (c : Int)) := cell_on hbr c7_4
                  have r5 : wr.cell? ⟨w.heap.size + 1 + 1, 1, none⟩ = some (.int .i64 (k : Int)) := cell_on hbr c7_5
                  go_wp2_with (fail)
                  refine (hWac _).mono ?_
                  rintro e ws ⟨rfl, hbs⟩
                  go_wp2
                  go_meet
                  case rel => exact ⟨rfl, hbr.trans (hbs.mono hbr.size)⟩
              · skip
                have en : ¬ (a : Int) = (b : Int) := by omega
                have en2 : ((a : Int) == (b : Int)) = false := by rw [beq_eq_false_iff_ne]; exact en
                cases bc with
                | false =>
                  go_wp2_with (fail)
                  refine (hWbc _).mono ?_
                  rintro e wr ⟨rfl, hbr⟩
                  go_wp2
                  go_meet
                  case rel => exact ⟨rfl, hbr⟩
                | true =>
                  obtain rfl : ac = true := Fac.out rfl rfl
                  go_wp2_with (fail)
                  refine (hWbc _).mono ?_
                  rintro e wr ⟨rfl, hbr⟩
                  have hzr := hbr.size
                  have r0 : wr.cell? ⟨w.heap.size, 0, none⟩ = some (.int .u32 (a : Int)) := cell_on hbr c7_0
                  have r1 : wr.cell? ⟨w.heap.size, 1, none⟩ = some (.int .i64 (n : Int)) := cell_on hbr c7_1
                  have r4 : wr.cell? ⟨w.heap.size + 1 + 1, 0, none⟩ = some (.int .u32 (c : Int)) := cell_on hbr c7_4
                  have r5 : wr.cell? ⟨w.heap.size + 1 + 1, 1, none⟩ = some (.int .i64 (k : Int)) := cell_on hbr c7_5
                  go_wp2_with (fail)
                  refine (hWac _).mono ?_
                  rintro e ws ⟨rfl, hbs⟩
                  go_wp2
                  go_meet
                  case rel => exact ⟨rfl, hbr.trans (hbs.mono hbr.size)⟩
          | false =>
            cases ba with
            | true =>
              by_cases ea : a = b
              · skip
                subst ea
                have en : ¬ (n : Int) = (m : Int) := fun e => by have := Fne.out ⟨rfl, by omega⟩; simp at this
                have en2 : ((n : Int) == (m : Int)) = false := by rw [beq_eq_false_iff_ne]; exact en
                go_wp2
                go_meet
                case rel => exact ⟨rfl, Below.refl _ _⟩
              · skip
                have en : ¬ (a : Int) = (b : Int) := by omega
                have en2 : ((a : Int) == (b : Int)) = false := by rw [beq_eq_false_iff_ne]; exact en
                go_wp2
                go_meet
                case rel => exact ⟨rfl, Below.refl _ _⟩
            | false =>
              by_cases ea : a = b
              · skip
                subst ea
                have en : ¬ (n : Int) = (m : Int) := fun e => by have := Fne.out ⟨rfl, by omega⟩; simp at this
                have en2 : ((n : Int) == (m : Int)) = false := by rw [beq_eq_false_iff_ne]; exact en
                go_wp2
                go_meet
                case rel => exact ⟨rfl, Below.refl _ _⟩
              · skip
                have en : ¬ (a : Int) = (b : Int) := by omega
                have en2 : ((a : Int) == (b : Int)) = false := by rw [beq_eq_false_iff_ne]; exact en
                go_wp2
                go_meet
                case rel => exact ⟨rfl, Below.refl _ _⟩
      case rest =>
        obtain ⟨rfl, hbe⟩ := hcut
        obtain ⟨we, hwe⟩ : ∃ x, x = wc := ⟨_, rfl⟩
        subst hwe
        have hze := hbe.size
        (try simp at hze)
        have hle_0 : w.heap.size < we.heap.size := by omega
        have hle_1 : w.heap.size + 1 < we.heap.size := by omega
        have hle_2 : w.heap.size + 1 + 1 < we.heap.size := by omega
        have hle_3 : w4.heap.size < we.heap.size := by omega
        have hle_4 : w5.heap.size < we.heap.size := by omega
        have ce_0 : we.cell? ⟨w.heap.size, 0, none⟩ = some (.int .u32 (a : Int)) := cell_on hbe c7_0
        have ce_1 : we.cell? ⟨w.heap.size, 1, none⟩ = some (.int .i64 (n : Int)) := cell_on hbe c7_1
        have ce_2 : we.cell? ⟨w.heap.size + 1, 0, none⟩ = some (.int .u32 (b : Int)) := cell_on hbe c7_2
        have ce_3 : we.cell? ⟨w.heap.size + 1, 1, none⟩ = some (.int .i64 (m : Int)) := cell_on hbe c7_3
        have ce_4 : we.cell? ⟨w.heap.size + 1 + 1, 0, none⟩ = some (.int .u32 (c : Int)) := cell_on hbe c7_4
        have ce_5 : we.cell? ⟨w.heap.size + 1 + 1, 1, none⟩ = some (.int .i64 (k : Int)) := cell_on hbe c7_5
        have ce_6 : we.cell? ⟨w4.heap.size, 0, none⟩ = some (.int .u32 (a : Int)) := cell_on hbe c7_6
        have ce_7 : we.cell? ⟨w4.heap.size, 1, none⟩ = some (.int .u32 (HA : Int)) := cell_on hbe c7_7
        have ce_8 : we.cell? ⟨w5.heap.size, 0, none⟩ = some (.int .u32 (b : Int)) := cell_on hbe c7_8
        have ce_9 : we.cell? ⟨w5.heap.size, 1, none⟩ = some (.int .u32 (HB : Int)) := cell_on hbe c7_9
        have hwe : Below w.heap.size w we := by (repeat (first | assumption | exact Below.refl _ _ | refine Below.drew ?_ | refine bel_drewN ?_ _ | refine Below.setCell ?_ (by first | omega | (simp; done) | (simp; omega)) _ | refine Below.alloc ?_ (by first | omega | (simp; done) | (simp; omega)) _ | refine bel_of ?_ (by assumption)))
        clear hbe hz7 hl7_0 hl7_1 hl7_2 hl7_3 hl7_4 c7_0 c7_1 c7_2 c7_3 c7_4 c7_5 c7_6 c7_7 c7_8 c7_9 hw7
        go_wp2_with (fail)
        refine (hcom _).mono ?_
        rintro e w8 ⟨rfl, hb8⟩
        have hz8 := hb8.size
        (try simp at hz8)
        have hl8_0 : w.heap.size < w8.heap.size := by omega
        have hl8_1 : w.heap.size + 1 < w8.heap.size := by omega
        have hl8_2 : w.heap.size + 1 + 1 < w8.heap.size := by omega
        have hl8_3 : w4.heap.size < w8.heap.size := by omega
        have hl8_4 : w5.heap.size < w8.heap.size := by omega
        have c8_0 : w8.cell? ⟨w.heap.size, 0, none⟩ = some (.int .u32 (a : Int)) := cell_on hb8 ce_0
        have c8_1 : w8.cell? ⟨w.heap.size, 1, none⟩ = some (.int .i64 (n : Int)) := cell_on hb8 ce_1
        have c8_2 : w8.cell? ⟨w.heap.size + 1, 0, none⟩ = some (.int .u32 (b : Int)) := cell_on hb8 ce_2
        have c8_3 : w8.cell? ⟨w.heap.size + 1, 1, none⟩ = some (.int .i64 (m : Int)) := cell_on hb8 ce_3
        have c8_4 : w8.cell? ⟨w.heap.size + 1 + 1, 0, none⟩ = some (.int .u32 (c : Int)) := cell_on hb8 ce_4
        have c8_5 : w8.cell? ⟨w.heap.size + 1 + 1, 1, none⟩ = some (.int .i64 (k : Int)) := cell_on hb8 ce_5
        have c8_6 : w8.cell? ⟨w4.heap.size, 0, none⟩ = some (.int .u32 (a : Int)) := cell_on hb8 ce_6
        have c8_7 : w8.cell? ⟨w4.heap.size, 1, none⟩ = some (.int .u32 (HA : Int)) := cell_on hb8 ce_7
        have c8_8 : w8.cell? ⟨w5.heap.size, 0, none⟩ = some (.int .u32 (b : Int)) := cell_on hb8 ce_8
        have c8_9 : w8.cell? ⟨w5.heap.size, 1, none⟩ = some (.int .u32 (HB : Int)) := cell_on hb8 ce_9
        have hw8 : Below w.heap.size w w8 := by (repeat (first | assumption | exact Below.refl _ _ | refine Below.drew ?_ | refine bel_drewN ?_ _ | refine Below.setCell ?_ (by first | omega | (simp; done) | (simp; omega)) _ | refine Below.alloc ?_ (by first | omega | (simp; done) | (simp; omega)) _ | refine bel_of ?_ (by assumption)))
        clear hb8 hze hle_0 hle_1 hle_2 hle_3 hle_4 ce_0 ce_1 ce_2 ce_3 ce_4 ce_5 ce_6 ce_7 ce_8 ce_9 hwe
        go_wp2_with (fail)
        refine (hWap _).mono ?_
        rintro e w9 ⟨rfl, hb9⟩
        have hz9 := hb9.size
        (try simp at hz9)
        have hl9_0 : w.heap.size < w9.heap.size := by omega
        have hl9_1 : w.heap.size + 1 < w9.heap.size := by omega
        have hl9_2 : w.heap.size + 1 + 1 < w9.heap.size := by omega
        have hl9_3 : w4.heap.size < w9.heap.size := by omega
        have hl9_4 : w5.heap.size < w9.heap.size := by omega
        have hl9_5 : w8.heap.size < w9.heap.size := by omega
        have c9_0 : w9.cell? ⟨w.heap.size, 0, none⟩ = some (.int .u32 (a : Int)) := cell_on hb9 (cell_alloc c8_0)
        have c9_1 : w9.cell? ⟨w.heap.size, 1, none⟩ = some (.int .i64 (n : Int)) := cell_on hb9 (cell_alloc c8_1)
        have c9_2 : w9.cell? ⟨w.heap.size + 1, 0, none⟩ = some (.int .u32 (b : Int)) := cell_on hb9 (cell_alloc c8_2)
        have c9_3 : w9.cell? ⟨w.heap.size + 1, 1, none⟩ = some (.int .i64 (m : Int)) := cell_on hb9 (cell_alloc c8_3)
        have c9_4 : w9.cell? ⟨w.heap.size + 1 + 1, 0, none⟩ = some (.int .u32 (c : Int)) := cell_on hb9 (cell_alloc c8_4)
        have c9_5 : w9.cell? ⟨w.heap.size + 1 + 1, 1, none⟩ = some (.int .i64 (k : Int)) := cell_on hb9 (cell_alloc c8_5)
        have c9_6 : w9.cell? ⟨w4.heap.size, 0, none⟩ = some (.int .u32 (a : Int)) := cell_on hb9 (cell_alloc c8_6)
        have c9_7 : w9.cell? ⟨w4.heap.size, 1, none⟩ = some (.int .u32 (HA : Int)) := cell_on hb9 (cell_alloc c8_7)
        have c9_8 : w9.cell? ⟨w5.heap.size, 0, none⟩ = some (.int .u32 (b : Int)) := cell_on hb9 (cell_alloc c8_8)
        have c9_9 : w9.cell? ⟨w5.heap.size, 1, none⟩ = some (.int .u32 (HB : Int)) := cell_on hb9 (cell_alloc c8_9)
        have c9_10 : w9.cell? ⟨w8.heap.size, 0, none⟩ = some (.int .u32 (P : Int)) := cell_on hb9 (show (w8.alloc (.cells #[.int .u32 (P : Int), .int .i64 (K : Int)] 24)).cell? ⟨w8.heap.size, 0, none⟩ = some (.int .u32 (P : Int)) from by simp [go_sem])
        have c9_11 : w9.cell? ⟨w8.heap.size, 1, none⟩ = some (.int .i64 (K : Int)) := cell_on hb9 (show (w8.alloc (.cells #[.int .u32 (P : Int), .int .i64 (K : Int)] 24)).cell? ⟨w8.heap.size, 1, none⟩ = some (.int .i64 (K : Int)) from by simp [go_sem])
        have hw9 : Below w.heap.size w w9 := by (repeat (first | assumption | exact Below.refl _ _ | refine Below.drew ?_ | refine bel_drewN ?_ _ | refine Below.setCell ?_ (by first | omega | (simp; done) | (simp; omega)) _ | refine Below.alloc ?_ (by first | omega | (simp; done) | (simp; omega)) _ | refine bel_of ?_ (by assumption)))
        clear hb9 hz8 hl8_0 hl8_1 hl8_2 hl8_3 hl8_4 c8_0 c8_1 c8_2 c8_3 c8_4 c8_5 c8_6 c8_7 c8_8 c8_9 hw8
        go_wp2_with (fail)
        refine (hWbp _).mono ?_
        rintro e w10 ⟨rfl, hb10⟩
        have hz10 := hb10.size
        (try simp at hz10)
        have hl10_0 : w.heap.size < w10.heap.size := by omega
        have hl10_1 : w.heap.size + 1 < w10.heap.size := by omega
        have hl10_2 : w.heap.size + 1 + 1 < w10.heap.size := by omega
        have hl10_3 : w4.heap.size < w10.heap.size := by omega
        have hl10_4 : w5.heap.size < w10.heap.size := by omega
        have hl10_5 : w8.heap.size < w10.heap.size := by omega
        have c10_0 : w10.cell? ⟨w.heap.size, 0, none⟩ = some (.int .u32 (a : Int)) := cell_on hb10 c9_0
        have c10_1 : w10.cell? ⟨w.heap.size, 1, none⟩ = some (.int .i64 (n : Int)) := cell_on hb10 c9_1
        have c10_2 : w10.cell? ⟨w.heap.size + 1, 0, none⟩ = some (.int .u32 (b : Int)) := cell_on hb10 c9_2
        have c10_3 : w10.cell? ⟨w.heap.size + 1, 1, none⟩ = some (.int .i64 (m : Int)) := cell_on hb10 c9_3
        have c10_4 : w10.cell? ⟨w.heap.size + 1 + 1, 0, none⟩ = some (.int .u32 (c : Int)) := cell_on hb10 c9_4
        have c10_5 : w10.cell? ⟨w.heap.size + 1 + 1, 1, none⟩ = some (.int .i64 (k : Int)) := cell_on hb10 c9_5
        have c10_6 : w10.cell? ⟨w4.heap.size, 0, none⟩ = some (.int .u32 (a : Int)) := cell_on hb10 c9_6
        have c10_7 : w10.cell? ⟨w4.heap.size, 1, none⟩ = some (.int .u32 (HA : Int)) := cell_on hb10 c9_7
        have c10_8 : w10.cell? ⟨w5.heap.size, 0, none⟩ = some (.int .u32 (b : Int)) := cell_on hb10 c9_8
        have c10_9 : w10.cell? ⟨w5.heap.size, 1, none⟩ = some (.int .u32 (HB : Int)) := cell_on hb10 c9_9
        have c10_10 : w10.cell? ⟨w8.heap.size, 0, none⟩ = some (.int .u32 (P : Int)) := cell_on hb10 c9_10
        have c10_11 : w10.cell? ⟨w8.heap.size, 1, none⟩ = some (.int .i64 (K : Int)) := cell_on hb10 c9_11
        have hw10 : Below w.heap.size w w10 := by (repeat (first | assumption | exact Below.refl _ _ | refine Below.drew ?_ | refine bel_drewN ?_ _ | refine Below.setCell ?_ (by first | omega | (simp; done) | (simp; omega)) _ | refine Below.alloc ?_ (by first | omega | (simp; done) | (simp; omega)) _ | refine bel_of ?_ (by assumption)))
        clear hb10 hz9 hl9_0 hl9_1 hl9_2 hl9_3 hl9_4 hl9_5 c9_0 c9_1 c9_2 c9_3 c9_4 c9_5 c9_6 c9_7 c9_8 c9_9 c9_10 c9_11 hw9
        go_upto_region 12 with (fail)
        go_cut [19] (fun s wx => s = .bool true ∧ Below w10.heap.size w10 wx)
        case first =>
          as_aux_lemma =>
            cases ac
            all_goals
              have kne : Nonempty (Kin w10) := ⟨⟨_, Below.refl _ _⟩⟩
              have kc0 : ∀ y : Kin w10, y.val.cell? ⟨w.heap.size, 0, none⟩ = some (.int .u32 (a : Int)) := fun y => cell_on y.is c10_0
              have kc1 : ∀ y : Kin w10, y.val.cell? ⟨w.heap.size, 1, none⟩ = some (.int .i64 (n : Int)) := fun y => cell_on y.is c10_1
              have kc2 : ∀ y : Kin w10, y.val.cell? ⟨w.heap.size + 1, 0, none⟩ = some (.int .u32 (b : Int)) := fun y => cell_on y.is c10_2
              have kc3 : ∀ y : Kin w10, y.val.cell? ⟨w.heap.size + 1, 1, none⟩ = some (.int .i64 (m : Int)) := fun y => cell_on y.is c10_3
              have kc4 : ∀ y : Kin w10, y.val.cell? ⟨w.heap.size + 1 + 1, 0, none⟩ = some (.int .u32 (c : Int)) := fun y => cell_on y.is c10_4
              have kc5 : ∀ y : Kin w10, y.val.cell? ⟨w.heap.size + 1 + 1, 1, none⟩ = some (.int .i64 (k : Int)) := fun y => cell_on y.is c10_5
              have kc6 : ∀ y : Kin w10, y.val.cell? ⟨w4.heap.size, 0, none⟩ = some (.int .u32 (a : Int)) := fun y => cell_on y.is c10_6
              have kc7 : ∀ y : Kin w10, y.val.cell? ⟨w4.heap.size, 1, none⟩ = some (.int .u32 (HA : Int)) := fun y => cell_on y.is c10_7
              have kc8 : ∀ y : Kin w10, y.val.cell? ⟨w5.heap.size, 0, none⟩ = some (.int .u32 (b : Int)) := fun y => cell_on y.is c10_8
              have kc9 : ∀ y : Kin w10, y.val.cell? ⟨w5.heap.size, 1, none⟩ = some (.int .u32 (HB : Int)) := fun y => cell_on y.is c10_9
              have kc10 : ∀ y : Kin w10, y.val.cell? ⟨w8.heap.size, 0, none⟩ = some (.int .u32 (P : Int)) := fun y => cell_on y.is c10_10
              have kc11 : ∀ y : Kin w10, y.val.cell? ⟨w8.heap.size, 1, none⟩ = some (.int .i64 (K : Int)) := fun y => cell_on y.is c10_11
              refine wp_region_kin w10 (Below.refl _ _) (by kernel_rfl) (by kernel_rfl) ?_
              repeat (go_big_quiet_step (first | (go_at_call_of 22 (Value.agg #[.int .u32 (P : Int), .int .i64 (K : Int)]); exact kin_call (hWpc _)) | (go_at_call_of 22 (Value.agg #[.int .u32 (a : Int), .int .i64 (n : Int)]); exact kin_call (hWac _)) | (go_at_call_of 22 (Value.agg #[.int .u32 (b : Int), .int .i64 (m : Int)]); exact kin_call (hWbc _))))
              refine wpQuiet_nil ?_
              rintro wr ⟨⟨xq, hxq⟩, hyq⟩
              have hbr : Below w10.heap.size w10 wr := by rw [hyq]; exact hxq
              clear hyq hxq xq
              go_wp2
              go_meet
              case rel => exact ⟨by simp, hbr⟩
        case rest =>
          obtain ⟨rfl, hbd⟩ := hcut
          obtain ⟨wd, hwd⟩ : ∃ x, x = wc := ⟨_, rfl⟩
          subst hwd
          have hzd := hbd.size
          (try simp at hzd)
          have hld_0 : w.heap.size < wd.heap.size := by omega
          have hld_1 : w.heap.size + 1 < wd.heap.size := by omega
          have hld_2 : w.heap.size + 1 + 1 < wd.heap.size := by omega
          have hld_3 : w4.heap.size < wd.heap.size := by omega
          have hld_4 : w5.heap.size < wd.heap.size := by omega
          have hld_5 : w8.heap.size < wd.heap.size := by omega
          have cd_0 : wd.cell? ⟨w.heap.size, 0, none⟩ = some (.int .u32 (a : Int)) := cell_on hbd c10_0
          have cd_1 : wd.cell? ⟨w.heap.size, 1, none⟩ = some (.int .i64 (n : Int)) := cell_on hbd c10_1
          have cd_2 : wd.cell? ⟨w.heap.size + 1, 0, none⟩ = some (.int .u32 (b : Int)) := cell_on hbd c10_2
          have cd_3 : wd.cell? ⟨w.heap.size + 1, 1, none⟩ = some (.int .i64 (m : Int)) := cell_on hbd c10_3
          have cd_4 : wd.cell? ⟨w.heap.size + 1 + 1, 0, none⟩ = some (.int .u32 (c : Int)) := cell_on hbd c10_4
          have cd_5 : wd.cell? ⟨w.heap.size + 1 + 1, 1, none⟩ = some (.int .i64 (k : Int)) := cell_on hbd c10_5
          have cd_6 : wd.cell? ⟨w4.heap.size, 0, none⟩ = some (.int .u32 (a : Int)) := cell_on hbd c10_6
          have cd_7 : wd.cell? ⟨w4.heap.size, 1, none⟩ = some (.int .u32 (HA : Int)) := cell_on hbd c10_7
          have cd_8 : wd.cell? ⟨w5.heap.size, 0, none⟩ = some (.int .u32 (b : Int)) := cell_on hbd c10_8
          have cd_9 : wd.cell? ⟨w5.heap.size, 1, none⟩ = some (.int .u32 (HB : Int)) := cell_on hbd c10_9
          have cd_10 : wd.cell? ⟨w8.heap.size, 0, none⟩ = some (.int .u32 (P : Int)) := cell_on hbd c10_10
          have cd_11 : wd.cell? ⟨w8.heap.size, 1, none⟩ = some (.int .i64 (K : Int)) := cell_on hbd c10_11
          have hwd : Below w.heap.size w wd := by (repeat (first | assumption | exact Below.refl _ _ | refine Below.drew ?_ | refine bel_drewN ?_ _ | refine Below.setCell ?_ (by first | omega | (simp; done) | (simp; omega)) _ | refine Below.alloc ?_ (by first | omega | (simp; done) | (simp; omega)) _ | refine bel_of ?_ (by assumption)))
          clear hbd hz10 hl10_0 hl10_1 hl10_2 hl10_3 hl10_4 hl10_5 c10_0 c10_1 c10_2 c10_3 c10_4 c10_5 c10_6 c10_7 c10_8 c10_9 c10_10 c10_11 hw10
          cases ab <;> cases ba
          all_goals
            as_aux_lemma =>
              first | (obtain rfl : ap = true := Fap.out.2 (Fapart.out rfl rfl)) | (obtain rfl : ap = false := no_of Fap.out (by first | (have h1 := Fab.out.1 rfl; omega) | (have h2 := Fba.out.1 rfl; omega)))
              go_wp2_with (fail)
              refine (awake_any _).mono ?_
              rintro e w11 ⟨rfl, hb11⟩
              have hz11 := hb11.size
              (try simp at hz11)
              have hl11_0 : w.heap.size < w11.heap.size := by omega
              have hl11_1 : w.heap.size + 1 < w11.heap.size := by omega
              have hl11_2 : w.heap.size + 1 + 1 < w11.heap.size := by omega
              have hl11_3 : w4.heap.size < w11.heap.size := by omega
              have hl11_4 : w5.heap.size < w11.heap.size := by omega
              have hl11_5 : w8.heap.size < w11.heap.size := by omega
              have c11_0 : w11.cell? ⟨w.heap.size, 0, none⟩ = some (.int .u32 (a : Int)) := cell_on hb11 cd_0
              have c11_1 : w11.cell? ⟨w.heap.size, 1, none⟩ = some (.int .i64 (n : Int)) := cell_on hb11 cd_1
              have c11_2 : w11.cell? ⟨w.heap.size + 1, 0, none⟩ = some (.int .u32 (b : Int)) := cell_on hb11 cd_2
              have c11_3 : w11.cell? ⟨w.heap.size + 1, 1, none⟩ = some (.int .i64 (m : Int)) := cell_on hb11 cd_3
              have c11_4 : w11.cell? ⟨w.heap.size + 1 + 1, 0, none⟩ = some (.int .u32 (c : Int)) := cell_on hb11 cd_4
              have c11_5 : w11.cell? ⟨w.heap.size + 1 + 1, 1, none⟩ = some (.int .i64 (k : Int)) := cell_on hb11 cd_5
              have c11_6 : w11.cell? ⟨w4.heap.size, 0, none⟩ = some (.int .u32 (a : Int)) := cell_on hb11 cd_6
              have c11_7 : w11.cell? ⟨w4.heap.size, 1, none⟩ = some (.int .u32 (HA : Int)) := cell_on hb11 cd_7
              have c11_8 : w11.cell? ⟨w5.heap.size, 0, none⟩ = some (.int .u32 (b : Int)) := cell_on hb11 cd_8
              have c11_9 : w11.cell? ⟨w5.heap.size, 1, none⟩ = some (.int .u32 (HB : Int)) := cell_on hb11 cd_9
              have c11_10 : w11.cell? ⟨w8.heap.size, 0, none⟩ = some (.int .u32 (P : Int)) := cell_on hb11 cd_10
              have c11_11 : w11.cell? ⟨w8.heap.size, 1, none⟩ = some (.int .i64 (K : Int)) := cell_on hb11 cd_11
              have hw11 : Below w.heap.size w w11 := by (repeat (first | assumption | exact Below.refl _ _ | refine Below.drew ?_ | refine bel_drewN ?_ _ | refine Below.setCell ?_ (by first | omega | (simp; done) | (simp; omega)) _ | refine Below.alloc ?_ (by first | omega | (simp; done) | (simp; omega)) _ | refine bel_of ?_ (by assumption)))
              clear hb11 hzd hld_0 hld_1 hld_2 hld_3 hld_4 hld_5 cd_0 cd_1 cd_2 cd_3 cd_4 cd_5 cd_6 cd_7 cd_8 cd_9 cd_10 cd_11 hwd
              go_wp2_with (fail)
              go_ret
              exact ⟨rfl, by (repeat (first | assumption | exact Below.refl _ _ | refine Below.drew ?_ | refine bel_drewN ?_ _ | refine Below.setCell ?_ (by first | omega | (simp; done) | (simp; omega)) _ | refine Below.alloc ?_ (by first | omega | (simp; done) | (simp; omega)) _ | refine bel_of ?_ (by assumption)))⟩
theorem prefixNests_walk (a : Nat) (n : Int) (ha : a < 4294967296) (b : Nat) (m : Int) (hb : b < 4294967296) (c : Nat) (k : Int) (hc : c < 4294967296) (w : World) :
    Calls Try.prog 8 #[.agg #[.int .u32 a, .int .i64 n], .agg #[.int .u32 b, .int .i64 m], .agg #[.int .u32 c, .int .i64 k]] w fun e w' => e = .returned (.bool true) ∧ Below w.heap.size w w' := by
  by_cases h : chk a n = 0 ∧ chk b m = 0 ∧ chk c k = 0
  · obtain ⟨n', rfl, hn, h0⟩ := chk_ok h.1
    obtain ⟨m', rfl, hm, k0⟩ := chk_ok h.2.1
    obtain ⟨k', rfl, hk, l0⟩ := chk_ok h.2.2
    exact nests_good a n' b m' c k' ha hb hc hn hm hk h0 k0 l0 w
  · exact nests_bad a n ha b m hb c k hc h w

set_option maxRecDepth 100000 in
theorem prefixNests_lifted (os : Os) (started : os.Started) (H : Type) (enc : TypeId × Value → H) :
    ReturnsInHanded {} Try.checked os 8 .any (Rows.prefixNestsSpec.pre6 enc Try.prog Try.f8 Rows.prefixNestsRow.domain false) (Rows.prefixNestsSpec.post enc Try.prog Try.f8 false true false false) := by
  refine returnsInHanded_of_change (C := Try.checked) own started (by kernel_rfl) Try.func8
    (ChangeSpec.witness6 (enc := enc) (C := Try.checked) false ⟨#[], #[.agg #[.int .u32 0, .int .i64 0], .agg #[.int .u32 0, .int .i64 0], .agg #[.int .u32 0, .int .i64 0]], []⟩ 8 (by kernel_rfl) (by kernel_rfl) (by kernel_rfl) (by kernel_rfl)) ?_
  intro W base args ds gs before hval0 hW hcnd _
  have hval : ∀ (j : Nat) t v, Try.f8.params[j]? = some t → args[j]? = some v → Value.okWide Try.prog W .any base t v := hval0
  have hW' := hW
  obtain ⟨p, q, hA0, hV, rfl, hfz, hnd⟩ := hW
  have hA : DataW.TrodAll enc Try.prog W 0 (fun _ => true) true Try.f8.params.toList args.toList ds p := hA0
  rw [Try.params8] at hA hval
  obtain ⟨v0, vs0, d0, ds0, p0, q0, hargs, rfl, rfl, h0, r0⟩ := trodAll_cons hA
  obtain ⟨v1, vs1, d1, ds1, p1, q1, rfl, rfl, rfl, h1, r1⟩ := trodAll_cons r0
  obtain ⟨v2, vs2, d2, ds2, p2, q2, rfl, rfl, rfl, h2, r2⟩ := trodAll_cons r1
  obtain ⟨rfl, rfl, rfl⟩ := trodAll_nil r2
  obtain rfl : args = #[v0, v1, v2] := by cases args; simp_all
  obtain ⟨rfl, rfl⟩ := trodVars_none hV
  obtain ⟨a0, n0, rfl, rfl, rfl, w0, x0⟩ := open_px (hval 0 24 v0 rfl rfl) h0
  obtain ⟨b0, rfl, t0⟩ := wf_u32 w0
  obtain ⟨a1, n1, rfl, rfl, rfl, w1, x1⟩ := open_px (hval 1 24 v1 rfl rfl) h1
  obtain ⟨b1, rfl, t1⟩ := wf_u32 w1
  obtain ⟨a2, n2, rfl, rfl, rfl, w2, x2⟩ := open_px (hval 2 24 v2 rfl rfl) h2
  obtain ⟨b2, rfl, t2⟩ := wf_u32 w2
  clear hA0 hval0
  simp only [List.append_nil] at hW'
  refine (prefixNests_walk b0 n0 t0 b1 n1 t1 b2 n2 t2 W).mono fun e W' ⟨he, bel⟩ => ?_
  subst he
  exact ⟨_, rfl, _, _, _, [], _, [], hW', trodAll_mk1 (shut_bool Try.underlying4 _), (trodAll_cons_mk (shut_px w0 x0) (trodAll_cons_mk (shut_px w1 x1) (trodAll_cons_mk (shut_px w2 x2) trodAll_mk0))), rfl, bel.frame _, fun h => by cases h⟩

/-- The given statement. -/
theorem prefixNests_holds : Rows.PrefixNestsSaid :=
  OpenClaim.holds_of_wide 8 Try.f8 rfl rfl rfl rfl rfl rfl rfl ⟨rfl, rfl, rfl, rfl, rfl⟩ rfl rfl rfl rfl rfl (by kernel_rfl) Try.func8 (by kernel_rfl)
    (of_decide_eq_true (by kernel_rfl)) (by unfold Func.isWrapper; first | (rw [if_pos (by decide +kernel)]; kernel_rfl) | (rw [if_neg (by decide +kernel)]; exact ⟨rfl, rfl⟩))
    (fun os started H enc _ => prefixNests_lifted os started H enc)
#print axioms prefixNests_holds
end Go.Proofs.Ytegkkekbgndmpaa
