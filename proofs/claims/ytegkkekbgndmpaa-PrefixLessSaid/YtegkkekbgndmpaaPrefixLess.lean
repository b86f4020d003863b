/-
  Proved: for any two prefixes, both ways round, Less of package prefix tells the pieces that the document's definition tells, in its order, and what was told is the caller's: written over and behind, the next answer is the same (P2.6); the document's examples hold.
  Conditions: none; the law holds for every input.
-/
import Derived.Test.YtegkkekbgndmpaaPxAwake
import Derived.Test.YtegkkekbgndmpaaPxY
import Derived.Test.YtegkkekbgndmpaaPxFrame
namespace Go.Proofs.Ytegkkekbgndmpaa
open Go.ChangeShapes Go.WideShapes Go.ChangeAt Go.RowKit Go.Joins
set_option linter.unusedVariables false
set_option linter.unusedSimpArgs false

theorem lessP_le (a : Nat) (n : Int) (b : Nat) (m : Int) : (lessP a n b m).length ≤ 4294967296 := by
  unfold lessP
  split
  · have h1 := lessF_le (32 - n.toNat) a n.toNat b m.toNat
    have h2 : 2 ^ (32 - n.toNat) ≤ 2 ^ 32 := Nat.pow_le_pow_right (by decide) (by omega)
    omega
  · simp
theorem apart_rows {v u : Value} {b c B C : Nat} (hv : ∀ k, v.ownBlock = some k → b ≤ k ∧ k < B) (hu : ∀ k, u.ownBlock = some k → c ≤ k ∧ k < C) (h : B ≤ c) : u.ownBlock = none ∨ u.ownBlock ≠ v.ownBlock := by
  cases e : u.ownBlock with
  | none => exact .inl rfl
  | some k =>
    right
    intro e2
    have h1 := hu k e
    have h2 := hv k e2.symm
    omega
set_option maxRecDepth 100000 in
set_option maxHeartbeats 8000000 in
theorem prefixLess_walk (a : Nat) (n : Int) (ha : a < 4294967296) (b : Nat) (m : Int) (hb : b < 4294967296) (w : World) :
    Calls Try.prog 5 #[.agg #[.int .u32 a, .int .i64 n], .agg #[.int .u32 b, .int .i64 m]] w fun e w' => e = .returned (.bool true) ∧ Below w.heap.size w w' := by
  have hl1 := lessP_le a n b m
  have hl2 := lessP_le b m a n
  go_enter Try.func5, Try.ntmps5
  go_wp2_with (fail)
  refine (less_any a n b m _ ha hb).mono ?_
  rintro e w1 ⟨v1, rfl, hr1, hb1⟩
  have R1_v1 := hr1
  have Hltv1 := hr1.lt
  have hm1 := hb1.size
  (try simp at hm1)
  have hz1 := hb1.size
  (try simp at hz1)
  have hl1_0 : w.heap.size < w1.heap.size := by omega
  have hl1_1 : w.heap.size + 1 < w1.heap.size := by omega
  have c1_0 : w1.cell? ⟨w.heap.size, 0, none⟩ = some (.int .u32 (a : Int)) := cell_on hb1 (show ((w.alloc (.cells #[.int .u32 (a : Int), .int .i64 n] 24)).alloc (.cells #[.int .u32 (b : Int), .int .i64 m] 24)).cell? ⟨w.heap.size, 0, none⟩ = some (.int .u32 (a : Int)) from by simp [go_sem])
  have c1_1 : w1.cell? ⟨w.heap.size, 1, none⟩ = some (.int .i64 n) := cell_on hb1 (show ((w.alloc (.cells #[.int .u32 (a : Int), .int .i64 n] 24)).alloc (.cells #[.int .u32 (b : Int), .int .i64 m] 24)).cell? ⟨w.heap.size, 1, none⟩ = some (.int .i64 n) from by simp [go_sem])
  have c1_2 : w1.cell? ⟨w.heap.size + 1, 0, none⟩ = some (.int .u32 (b : Int)) := cell_on hb1 (show ((w.alloc (.cells #[.int .u32 (a : Int), .int .i64 n] 24)).alloc (.cells #[.int .u32 (b : Int), .int .i64 m] 24)).cell? ⟨w.heap.size + 1, 0, none⟩ = some (.int .u32 (b : Int)) from by simp [go_sem])
  have c1_3 : w1.cell? ⟨w.heap.size + 1, 1, none⟩ = some (.int .i64 m) := cell_on hb1 (show ((w.alloc (.cells #[.int .u32 (a : Int), .int .i64 n] 24)).alloc (.cells #[.int .u32 (b : Int), .int .i64 m] 24)).cell? ⟨w.heap.size + 1, 1, none⟩ = some (.int .i64 m) from by simp [go_sem])
  have hw1 : Below w.heap.size w w1 := by (repeat (first | assumption | exact Below.refl _ _ | refine Below.drew ?_ | refine bel_drewN ?_ _ | refine Below.setCell ?_ (by first | omega | (simp; done) | (simp; omega)) _ | refine Below.alloc ?_ (by first | omega | (simp; done) | (simp; omega)) _ | refine bel_of ?_ (by assumption)))
  clear hb1
  go_wp2_with (fail)
  refine (less_any b m a n _ hb ha).mono ?_
  rintro e w2 ⟨v2, rfl, hr2, hb2⟩
  have R2_v1 : Row w2 ((w.alloc (.cells #[.int .u32 (a : Int), .int .i64 n] 24)).alloc (.cells #[.int .u32 (b : Int), .int .i64 m] 24)).heap.size v1 (lessP a n b m) := R1_v1.on hb2
  have R2_v2 := hr2
  have Hltv2 := hr2.lt
  have hm2 := hb2.size
  (try simp at hm2)
  have hz2 := hb2.size
  (try simp at hz2)
  have hl2_0 : w.heap.size < w2.heap.size := by omega
  have hl2_1 : w.heap.size + 1 < w2.heap.size := by omega
  have c2_0 : w2.cell? ⟨w.heap.size, 0, none⟩ = some (.int .u32 (a : Int)) := cell_on hb2 c1_0
  have c2_1 : w2.cell? ⟨w.heap.size, 1, none⟩ = some (.int .i64 n) := cell_on hb2 c1_1
  have c2_2 : w2.cell? ⟨w.heap.size + 1, 0, none⟩ = some (.int .u32 (b : Int)) := cell_on hb2 c1_2
  have c2_3 : w2.cell? ⟨w.heap.size + 1, 1, none⟩ = some (.int .i64 m) := cell_on hb2 c1_3
  have hw2 : Below w.heap.size w w2 := by (repeat (first | assumption | exact Below.refl _ _ | refine Below.drew ?_ | refine bel_drewN ?_ _ | refine Below.setCell ?_ (by first | omega | (simp; done) | (simp; omega)) _ | refine Below.alloc ?_ (by first | omega | (simp; done) | (simp; omega)) _ | refine bel_of ?_ (by assumption)))
  clear hb2 hz1 hl1_0 hl1_1 c1_0 c1_1 c1_2 c1_3 hw1
  go_wp2_with (fail)
  refine (rless_any a n b m _ ha hb).mono ?_
  rintro e w3 ⟨x1, rfl, hr3, hb3⟩
  have R3_v1 : Row w3 ((w.alloc (.cells #[.int .u32 (a : Int), .int .i64 n] 24)).alloc (.cells #[.int .u32 (b : Int), .int .i64 m] 24)).heap.size v1 (lessP a n b m) := R2_v1.on hb3
  have R3_v2 : Row w3 w1.heap.size v2 (lessP b m a n) := R2_v2.on hb3
  have R3_x1 := hr3
  have Hltx1 := hr3.lt
  have hm3 := hb3.size
  (try simp at hm3)
  have hz3 := hb3.size
  (try simp at hz3)
  have hl3_0 : w.heap.size < w3.heap.size := by omega
  have hl3_1 : w.heap.size + 1 < w3.heap.size := by omega
  have c3_0 : w3.cell? ⟨w.heap.size, 0, none⟩ = some (.int .u32 (a : Int)) := cell_on hb3 c2_0
  have c3_1 : w3.cell? ⟨w.heap.size, 1, none⟩ = some (.int .i64 n) := cell_on hb3 c2_1
  have c3_2 : w3.cell? ⟨w.heap.size + 1, 0, none⟩ = some (.int .u32 (b : Int)) := cell_on hb3 c2_2
  have c3_3 : w3.cell? ⟨w.heap.size + 1, 1, none⟩ = some (.int .i64 m) := cell_on hb3 c2_3
  have hw3 : Below w.heap.size w w3 := by (repeat (first | assumption | exact Below.refl _ _ | refine Below.drew ?_ | refine bel_drewN ?_ _ | refine Below.setCell ?_ (by first | omega | (simp; done) | (simp; omega)) _ | refine Below.alloc ?_ (by first | omega | (simp; done) | (simp; omega)) _ | refine bel_of ?_ (by assumption)))
  clear hb3 hz2 hl2_0 hl2_1 c2_0 c2_1 c2_2 c2_3 hw2
  go_wp2_with (fail)
  refine (rless_any b m a n _ hb ha).mono ?_
  rintro e w4 ⟨x2, rfl, hr4, hb4⟩
  have R4_v1 : Row w4 ((w.alloc (.cells #[.int .u32 (a : Int), .int .i64 n] 24)).alloc (.cells #[.int .u32 (b : Int), .int .i64 m] 24)).heap.size v1 (lessP a n b m) := R3_v1.on hb4
  have R4_v2 : Row w4 w1.heap.size v2 (lessP b m a n) := R3_v2.on hb4
  have R4_x1 : Row w4 w2.heap.size x1 (lessP a n b m) := R3_x1.on hb4
  have R4_x2 := hr4
  have Hltx2 := hr4.lt
  have hm4 := hb4.size
  (try simp at hm4)
  have hz4 := hb4.size
  (try simp at hz4)
  have hl4_0 : w.heap.size < w4.heap.size := by omega
  have hl4_1 : w.heap.size + 1 < w4.heap.size := by omega
  have c4_0 : w4.cell? ⟨w.heap.size, 0, none⟩ = some (.int .u32 (a : Int)) := cell_on hb4 c3_0
  have c4_1 : w4.cell? ⟨w.heap.size, 1, none⟩ = some (.int .i64 n) := cell_on hb4 c3_1
  have c4_2 : w4.cell? ⟨w.heap.size + 1, 0, none⟩ = some (.int .u32 (b : Int)) := cell_on hb4 c3_2
  have c4_3 : w4.cell? ⟨w.heap.size + 1, 1, none⟩ = some (.int .i64 m) := cell_on hb4 c3_3
  have hw4 : Below w.heap.size w w4 := by (repeat (first | assumption | exact Below.refl _ _ | refine Below.drew ?_ | refine bel_drewN ?_ _ | refine Below.setCell ?_ (by first | omega | (simp; done) | (simp; omega)) _ | refine Below.alloc ?_ (by first | omega | (simp; done) | (simp; omega)) _ | refine bel_of ?_ (by assumption)))
  clear hb4 hz3 hl3_0 hl3_1 c3_0 c3_1 c3_2 c3_3 hw3
  go_wp2_with (fail)
  refine (same_eq (lessP a n b m) hl1 _ _ _ _ _ R4_v1 R4_x1).mono ?_
  rintro e w5 ⟨rfl, hb5⟩
  have R5_v1 : Row w5 ((w.alloc (.cells #[.int .u32 (a : Int), .int .i64 n] 24)).alloc (.cells #[.int .u32 (b : Int), .int .i64 m] 24)).heap.size v1 (lessP a n b m) := R4_v1.on hb5
  have R5_v2 : Row w5 w1.heap.size v2 (lessP b m a n) := R4_v2.on hb5
  have R5_x1 : Row w5 w2.heap.size x1 (lessP a n b m) := R4_x1.on hb5
  have R5_x2 : Row w5 w3.heap.size x2 (lessP b m a n) := R4_x2.on hb5
  have hz5 := hb5.size
  (try simp at hz5)
  have hl5_0 : w.heap.size < w5.heap.size := by omega
  have hl5_1 : w.heap.size + 1 < w5.heap.size := by omega
  have c5_0 : w5.cell? ⟨w.heap.size, 0, none⟩ = some (.int .u32 (a : Int)) := cell_on hb5 c4_0
  have c5_1 : w5.cell? ⟨w.heap.size, 1, none⟩ = some (.int .i64 n) := cell_on hb5 c4_1
  have c5_2 : w5.cell? ⟨w.heap.size + 1, 0, none⟩ = some (.int .u32 (b : Int)) := cell_on hb5 c4_2
  have c5_3 : w5.cell? ⟨w.heap.size + 1, 1, none⟩ = some (.int .i64 m) := cell_on hb5 c4_3
  have hw5 : Below w.heap.size w w5 := by (repeat (first | assumption | exact Below.refl _ _ | refine Below.drew ?_ | refine bel_drewN ?_ _ | refine Below.setCell ?_ (by first | omega | (simp; done) | (simp; omega)) _ | refine Below.alloc ?_ (by first | omega | (simp; done) | (simp; omega)) _ | refine bel_of ?_ (by assumption)))
  clear hb5 hz4 hl4_0 hl4_1 c4_0 c4_1 c4_2 c4_3 hw4
  go_wp2_with (fail)
  refine (same_eq (lessP b m a n) hl2 _ _ _ _ _ R5_v2 R5_x2).mono ?_
  rintro e w6 ⟨rfl, hb6⟩
  have R6_v1 : Row w6 ((w.alloc (.cells #[.int .u32 (a : Int), .int .i64 n] 24)).alloc (.cells #[.int .u32 (b : Int), .int .i64 m] 24)).heap.size v1 (lessP a n b m) := R5_v1.on hb6
  have R6_v2 : Row w6 w1.heap.size v2 (lessP b m a n) := R5_v2.on hb6
  have R6_x1 : Row w6 w2.heap.size x1 (lessP a n b m) := R5_x1.on hb6
  have R6_x2 : Row w6 w3.heap.size x2 (lessP b m a n) := R5_x2.on hb6
  have hz6 := hb6.size
  (try simp at hz6)
  have hl6_0 : w.heap.size < w6.heap.size := by omega
  have hl6_1 : w.heap.size + 1 < w6.heap.size := by omega
  have c6_0 : w6.cell? ⟨w.heap.size, 0, none⟩ = some (.int .u32 (a : Int)) := cell_on hb6 c5_0
  have c6_1 : w6.cell? ⟨w.heap.size, 1, none⟩ = some (.int .i64 n) := cell_on hb6 c5_1
  have c6_2 : w6.cell? ⟨w.heap.size + 1, 0, none⟩ = some (.int .u32 (b : Int)) := cell_on hb6 c5_2
  have c6_3 : w6.cell? ⟨w.heap.size + 1, 1, none⟩ = some (.int .i64 m) := cell_on hb6 c5_3
  have hw6 : Below w.heap.size w w6 := by (repeat (first | assumption | exact Below.refl _ _ | refine Below.drew ?_ | refine bel_drewN ?_ _ | refine Below.setCell ?_ (by first | omega | (simp; done) | (simp; omega)) _ | refine Below.alloc ?_ (by first | omega | (simp; done) | (simp; omega)) _ | refine bel_of ?_ (by assumption)))
  clear hb6 hz5 hl5_0 hl5_1 c5_0 c5_1 c5_2 c5_3 hw5
  go_wp2_with (fail)
  refine (spoil_any (lessP a n b m) hl1 _ _ _ R6_v1 (by first | omega | (simp; omega))).mono ?_
  rintro e w7 ⟨rfl, hg7⟩
  have hz7 := hg7.size
  have hl7_0 : w.heap.size < w7.heap.size := by omega
  have hl7_1 : w.heap.size + 1 < w7.heap.size := by omega
  have c7_0 : w7.cell? ⟨w.heap.size, 0, none⟩ = some (.int .u32 (a : Int)) := hg7.cell c6_0 (fun e => by have h1 := (Hltv1 _ e.symm).1; simp at h1; omega)
  have c7_1 : w7.cell? ⟨w.heap.size, 1, none⟩ = some (.int .i64 n) := hg7.cell c6_1 (fun e => by have h1 := (Hltv1 _ e.symm).1; simp at h1; omega)
  have c7_2 : w7.cell? ⟨w.heap.size + 1, 0, none⟩ = some (.int .u32 (b : Int)) := hg7.cell c6_2 (fun e => by have h1 := (Hltv1 _ e.symm).1; simp at h1; omega)
  have c7_3 : w7.cell? ⟨w.heap.size + 1, 1, none⟩ = some (.int .i64 m) := hg7.cell c6_3 (fun e => by have h1 := (Hltv1 _ e.symm).1; simp at h1; omega)
  have R7_v2 : Row w7 w1.heap.size v2 (lessP b m a n) := World.ownsRow.kept R6_v2 hg7 (apart_rows Hltv1 Hltv2 (by omega))
  have R7_x1 : Row w7 w2.heap.size x1 (lessP a n b m) := World.ownsRow.kept R6_x1 hg7 (apart_rows Hltv1 Hltx1 (by omega))
  have R7_x2 : Row w7 w3.heap.size x2 (lessP b m a n) := World.ownsRow.kept R6_x2 hg7 (apart_rows Hltv1 Hltx2 (by omega))
  have hw7 : Below w.heap.size w w7 := bel_grown hw6 R6_v1 hg7 (by omega) (by first | omega | (simp; omega))
  clear hg7 hz6 hl6_0 hl6_1 c6_0 c6_1 c6_2 c6_3 hw6 R6_v1
  go_wp2_with (fail)
  refine (less_any a n b m _ ha hb).mono ?_
  rintro e w8 ⟨v3, rfl, hr8, hb8⟩
  have R8_v2 : Row w8 w1.heap.size v2 (lessP b m a n) := R7_v2.on hb8
  have R8_x1 : Row w8 w2.heap.size x1 (lessP a n b m) := R7_x1.on hb8
  have R8_x2 : Row w8 w3.heap.size x2 (lessP b m a n) := R7_x2.on hb8
  have R8_v3 := hr8
  have Hltv3 := hr8.lt
  have hm8 := hb8.size
  (try simp at hm8)
  have hz8 := hb8.size
  (try simp at hz8)
  have hl8_0 : w.heap.size < w8.heap.size := by omega
  have hl8_1 : w.heap.size + 1 < w8.heap.size := by omega
  have c8_0 : w8.cell? ⟨w.heap.size, 0, none⟩ = some (.int .u32 (a : Int)) := cell_on hb8 c7_0
  have c8_1 : w8.cell? ⟨w.heap.size, 1, none⟩ = some (.int .i64 n) := cell_on hb8 c7_1
  have c8_2 : w8.cell? ⟨w.heap.size + 1, 0, none⟩ = some (.int .u32 (b : Int)) := cell_on hb8 c7_2
  have c8_3 : w8.cell? ⟨w.heap.size + 1, 1, none⟩ = some (.int .i64 m) := cell_on hb8 c7_3
  have hw8 : Below w.heap.size w w8 := by (repeat (first | assumption | exact Below.refl _ _ | refine Below.drew ?_ | refine bel_drewN ?_ _ | refine Below.setCell ?_ (by first | omega | (simp; done) | (simp; omega)) _ | refine Below.alloc ?_ (by first | omega | (simp; done) | (simp; omega)) _ | refine bel_of ?_ (by assumption)))
  clear hb8 hz7 hl7_0 hl7_1 c7_0 c7_1 c7_2 c7_3 hw7
  go_wp2_with (fail)
  refine (same_eq (lessP a n b m) hl1 _ _ _ _ _ R8_v3 R8_x1).mono ?_
  rintro e w9 ⟨rfl, hb9⟩
  have R9_v2 : Row w9 w1.heap.size v2 (lessP b m a n) := R8_v2.on hb9
  have R9_x1 : Row w9 w2.heap.size x1 (lessP a n b m) := R8_x1.on hb9
  have R9_x2 : Row w9 w3.heap.size x2 (lessP b m a n) := R8_x2.on hb9
  have R9_v3 : Row w9 w7.heap.size v3 (lessP a n b m) := R8_v3.on hb9
  have hz9 := hb9.size
  (try simp at hz9)
  have hl9_0 : w.heap.size < w9.heap.size := by omega
  have hl9_1 : w.heap.size + 1 < w9.heap.size := by omega
  have c9_0 : w9.cell? ⟨w.heap.size, 0, none⟩ = some (.int .u32 (a : Int)) := cell_on hb9 c8_0
  have c9_1 : w9.cell? ⟨w.heap.size, 1, none⟩ = some (.int .i64 n) := cell_on hb9 c8_1
  have c9_2 : w9.cell? ⟨w.heap.size + 1, 0, none⟩ = some (.int .u32 (b : Int)) := cell_on hb9 c8_2
  have c9_3 : w9.cell? ⟨w.heap.size + 1, 1, none⟩ = some (.int .i64 m) := cell_on hb9 c8_3
  have hw9 : Below w.heap.size w w9 := by (repeat (first | assumption | exact Below.refl _ _ | refine Below.drew ?_ | refine bel_drewN ?_ _ | refine Below.setCell ?_ (by first | omega | (simp; done) | (simp; omega)) _ | refine Below.alloc ?_ (by first | omega | (simp; done) | (simp; omega)) _ | refine bel_of ?_ (by assumption)))
  clear hb9 hz8 hl8_0 hl8_1 c8_0 c8_1 c8_2 c8_3 hw8
  obtain ⟨ad, cap, hv2, _⟩ := R9_v2.form
  subst hv2
  by_cases hn : (lessP b m a n).length = 0
  · have hn1 : (((lessP b m a n).length : Nat) : Int) = 0 := by omega
    have hn2 : ((((lessP b m a n).length : Nat) : Int) == 0) = true := by rw [beq_iff_eq]; exact hn1
    skip
    go_wp2_with (fail)
    refine (awake_any _).mono ?_
    rintro e w10 ⟨rfl, hb10⟩
    have hz10 := hb10.size
    (try simp at hz10)
    have hl10_0 : w.heap.size < w10.heap.size := by omega
    have hl10_1 : w.heap.size + 1 < w10.heap.size := by omega
    have c10_0 : w10.cell? ⟨w.heap.size, 0, none⟩ = some (.int .u32 (a : Int)) := cell_on hb10 c9_0
    have c10_1 : w10.cell? ⟨w.heap.size, 1, none⟩ = some (.int .i64 n) := cell_on hb10 c9_1
    have c10_2 : w10.cell? ⟨w.heap.size + 1, 0, none⟩ = some (.int .u32 (b : Int)) := cell_on hb10 c9_2
    have c10_3 : w10.cell? ⟨w.heap.size + 1, 1, none⟩ = some (.int .i64 m) := cell_on hb10 c9_3
    have hw10 : Below w.heap.size w w10 := by (repeat (first | assumption | exact Below.refl _ _ | refine Below.drew ?_ | refine bel_drewN ?_ _ | refine Below.setCell ?_ (by first | omega | (simp; done) | (simp; omega)) _ | refine Below.alloc ?_ (by first | omega | (simp; done) | (simp; omega)) _ | refine bel_of ?_ (by assumption)))
    clear hb10 hz9 hl9_0 hl9_1 c9_0 c9_1 c9_2 c9_3 hw9
    go_wp2_with (fail)
    go_ret
    exact ⟨rfl, by (repeat (first | assumption | exact Below.refl _ _ | refine Below.drew ?_ | refine bel_drewN ?_ _ | refine Below.setCell ?_ (by first | omega | (simp; done) | (simp; omega)) _ | refine Below.alloc ?_ (by first | omega | (simp; done) | (simp; omega)) _ | refine bel_of ?_ (by assumption)))⟩
  · have hn1 : ¬ (((lessP b m a n).length : Nat) : Int) = 0 := by omega
    have hn2 : ((((lessP b m a n).length : Nat) : Int) == 0) = false := by rw [beq_eq_false_iff_ne]; exact hn1
    go_wp2_with (fail)
    refine (same_eq (lessP b m a n) hl2 _ _ _ _ _ R9_v2 R9_x2).mono ?_
    rintro e w10 ⟨rfl, hb10⟩
    have hz10 := hb10.size
    (try simp at hz10)
    have hl10_0 : w.heap.size < w10.heap.size := by omega
    have hl10_1 : w.heap.size + 1 < w10.heap.size := by omega
    have c10_0 : w10.cell? ⟨w.heap.size, 0, none⟩ = some (.int .u32 (a : Int)) := cell_on hb10 c9_0
    have c10_1 : w10.cell? ⟨w.heap.size, 1, none⟩ = some (.int .i64 n) := cell_on hb10 c9_1
    have c10_2 : w10.cell? ⟨w.heap.size + 1, 0, none⟩ = some (.int .u32 (b : Int)) := cell_on hb10 c9_2
    have c10_3 : w10.cell? ⟨w.heap.size + 1, 1, none⟩ = some (.int .i64 m) := cell_on hb10 c9_3
    have hw10 : Below w.heap.size w w10 := by (repeat (first | assumption | exact Below.refl _ _ | refine Below.drew ?_ | refine bel_drewN ?_ _ | refine Below.setCell ?_ (by first | omega | (simp; done) | (simp; omega)) _ | refine Below.alloc ?_ (by first | omega | (simp; done) | (simp; omega)) _ | refine bel_of ?_ (by assumption)))
    clear hb10 hz9 hl9_0 hl9_1 c9_0 c9_1 c9_2 c9_3 hw9
    go_wp2_with (fail)
    refine (awake_any _).mono ?_
    rintro e w11 ⟨rfl, hb11⟩
    have hz11 := hb11.size
    (try simp at hz11)
    have hl11_0 : w.heap.size < w11.heap.size := by omega
    have hl11_1 : w.heap.size + 1 < w11.heap.size := by omega
    have c11_0 : w11.cell? ⟨w.heap.size, 0, none⟩ = some (.int .u32 (a : Int)) := cell_on hb11 c10_0
    have c11_1 : w11.cell? ⟨w.heap.size, 1, none⟩ = some (.int .i64 n) := cell_on hb11 c10_1
    have c11_2 : w11.cell? ⟨w.heap.size + 1, 0, none⟩ = some (.int .u32 (b : Int)) := cell_on hb11 c10_2
    have c11_3 : w11.cell? ⟨w.heap.size + 1, 1, none⟩ = some (.int .i64 m) := cell_on hb11 c10_3
    have hw11 : Below w.heap.size w w11 := by (repeat (first | assumption | exact Below.refl _ _ | refine Below.drew ?_ | refine bel_drewN ?_ _ | refine Below.setCell ?_ (by first | omega | (simp; done) | (simp; omega)) _ | refine Below.alloc ?_ (by first | omega | (simp; done) | (simp; omega)) _ | refine bel_of ?_ (by assumption)))
    clear hb11 hz10 hl10_0 hl10_1 c10_0 c10_1 c10_2 c10_3 hw10
    go_wp2_with (fail)
    go_ret
    exact ⟨rfl, by (repeat (first | assumption | exact Below.refl _ _ | refine Below.drew ?_ | refine bel_drewN ?_ _ | refine Below.setCell ?_ (by first | omega | (simp; done) | (simp; omega)) _ | refine Below.alloc ?_ (by first | omega | (simp; done) | (simp; omega)) _ | refine bel_of ?_ (by assumption)))⟩

set_option maxRecDepth 100000 in
theorem prefixLess_lifted (os : Os) (started : os.Started) (H : Type) (enc : TypeId × Value → H) :
    ReturnsInHanded {} Try.checked os 5 .any (Rows.prefixLessSpec.pre6 enc Try.prog Try.f5 Rows.prefixLessRow.domain false) (Rows.prefixLessSpec.post enc Try.prog Try.f5 false true false false) := by
  refine returnsInHanded_of_change (C := Try.checked) own started (by kernel_rfl) Try.func5
    (ChangeSpec.witness6 (enc := enc) (C := Try.checked) false ⟨#[], #[.agg #[.int .u32 0, .int .i64 0], .agg #[.int .u32 0, .int .i64 0]], []⟩ 8 (by kernel_rfl) (by kernel_rfl) (by kernel_rfl) (by kernel_rfl)) ?_
  intro W base args ds gs before hval0 hW hcnd _
  have hval : ∀ (j : Nat) t v, Try.f5.params[j]? = some t → args[j]? = some v → Value.okWide Try.prog W .any base t v := hval0
  have hW' := hW
  obtain ⟨p, q, hA0, hV, rfl, hfz, hnd⟩ := hW
  have hA : DataW.TrodAll enc Try.prog W 0 (fun _ => true) true Try.f5.params.toList args.toList ds p := hA0
  rw [Try.params5] at hA hval
  obtain ⟨v0, vs0, d0, ds0, p0, q0, hargs, rfl, rfl, h0, r0⟩ := trodAll_cons hA
  obtain ⟨v1, vs1, d1, ds1, p1, q1, rfl, rfl, rfl, h1, r1⟩ := trodAll_cons r0
  obtain ⟨rfl, rfl, rfl⟩ := trodAll_nil r1
  obtain rfl : args = #[v0, v1] := by cases args; simp_all
  obtain ⟨rfl, rfl⟩ := trodVars_none hV
  obtain ⟨a0, n0, rfl, rfl, rfl, w0, x0⟩ := open_px (hval 0 24 v0 rfl rfl) h0
  obtain ⟨b0, rfl, t0⟩ := wf_u32 w0
  obtain ⟨a1, n1, rfl, rfl, rfl, w1, x1⟩ := open_px (hval 1 24 v1 rfl rfl) h1
  obtain ⟨b1, rfl, t1⟩ := wf_u32 w1
  clear hA0 hval0
  simp only [List.append_nil] at hW'
  refine (prefixLess_walk b0 n0 t0 b1 n1 t1 W).mono fun e W' ⟨he, bel⟩ => ?_
  subst he
  exact ⟨_, rfl, _, _, _, [], _, [], hW', trodAll_mk1 (shut_bool Try.underlying4 _), (trodAll_cons_mk (shut_px w0 x0) (trodAll_cons_mk (shut_px w1 x1) trodAll_mk0)), rfl, bel.frame _, fun h => by cases h⟩

/-- The given statement. -/
theorem prefixLess_holds : Rows.PrefixLessSaid :=
  OpenClaim.holds_of_wide 5 Try.f5 rfl rfl rfl rfl rfl rfl rfl ⟨rfl, rfl, rfl, rfl, rfl⟩ rfl rfl rfl rfl rfl (by kernel_rfl) Try.func5 (by kernel_rfl)
    (of_decide_eq_true (by kernel_rfl)) (by unfold Func.isWrapper; first | (rw [if_pos (by decide +kernel)]; kernel_rfl) | (rw [if_neg (by decide +kernel)]; exact ⟨rfl, rfl⟩))
    (fun os started H enc _ => prefixLess_lifted os started H enc)
#print axioms prefixLess_holds
end Go.Proofs.Ytegkkekbgndmpaa
