/-
  For every two masks, in both orders, mask.Less tells the pieces that the document's definition tells, in its order, and what was told is the caller's: written over and behind, the next answer is the same (P4.4); and the examples of the document hold.
  Conditions: none; the law holds for every input.
-/
import Derived.Test.YtphfjhkbbodfaaaMkAw
import Derived.Test.YtphfjhkbbodfaaaMkX
import Derived.Test.YtphfjhkbbodfaaaMkE
import Derived.Test.YtphfjhkbbodfaaaMkFrame
namespace Go.Proofs.Ytphfjhkbbodfaaa
open Go.ChangeShapes Go.WideShapes Go.ChangeAt Go.RowKit Go.Joins
set_option linter.unusedVariables false
set_option linter.unusedSimpArgs false

theorem apart_rows {v u : Value} {b c B C : Nat} (hv : ∀ k, v.ownBlock = some k → b ≤ k ∧ k < B) (hu : ∀ k, u.ownBlock = some k → c ≤ k ∧ k < C) (h : B ≤ c) : u.ownBlock = none ∨ u.ownBlock ≠ v.ownBlock := by
  cases e : u.ownBlock with
  | none => exact .inl rfl
  | some k =>
    right
    intro e2
    have h1 := hu k e
    have h2 := hv k e2.symm
    omega
set_option maxRecDepth 100000 in
set_option maxHeartbeats 8000000 in
theorem maskLess_walk (v c : Nat) (hv : v < 256) (hc : c < 256) (x d : Nat) (hx : x < 256) (hd : d < 256) (w : World) :
    Calls Try.prog 6 #[.agg #[.int .u8 v, .int .u8 c], .agg #[.int .u8 x, .int .u8 d]] w fun e w' => e = .returned (.bool true) ∧ Below w.heap.size w w' := by
  have hl1 : (lessM v c x d).length ≤ 4294967296 := Nat.le_trans (lessM_le v c x d) (by decide)
  have hl2 : (lessM x d v c).length ≤ 4294967296 := Nat.le_trans (lessM_le x d v c) (by decide)
  go_enter Try.func6, Try.ntmps6
  go_wp2_with (fail)
  refine (lessC v c x d _ hv hc hx hd).mono ?_
  rintro e w1 ⟨v1, rfl, hr1, hb1⟩
  have R1_v1 := hr1
  have Hltv1 := hr1.lt
  have hm1 := hb1.size
  (try simp at hm1)
  have hz1 := hb1.size
  (try simp at hz1)
  have hl1_0 : w.heap.size < w1.heap.size := by omega
  have hl1_1 : w.heap.size + 1 < w1.heap.size := by omega
  have c1_0 : w1.cell? ⟨w.heap.size, 0, none⟩ = some (.int .u8 (v : Int)) := cell_on hb1 (show ((w.alloc (.cells #[.int .u8 (v : Int), .int .u8 (c : Int)] 23)).alloc (.cells #[.int .u8 (x : Int), .int .u8 (d : Int)] 23)).cell? ⟨w.heap.size, 0, none⟩ = some (.int .u8 (v : Int)) from by simp [go_sem])
  have c1_1 : w1.cell? ⟨w.heap.size, 1, none⟩ = some (.int .u8 (c : Int)) := cell_on hb1 (show ((w.alloc (.cells #[.int .u8 (v : Int), .int .u8 (c : Int)] 23)).alloc (.cells #[.int .u8 (x : Int), .int .u8 (d : Int)] 23)).cell? ⟨w.heap.size, 1, none⟩ = some (.int .u8 (c : Int)) from by simp [go_sem])
  have c1_2 : w1.cell? ⟨w.heap.size + 1, 0, none⟩ = some (.int .u8 (x : Int)) := cell_on hb1 (show ((w.alloc (.cells #[.int .u8 (v : Int), .int .u8 (c : Int)] 23)).alloc (.cells #[.int .u8 (x : Int), .int .u8 (d : Int)] 23)).cell? ⟨w.heap.size + 1, 0, none⟩ = some (.int .u8 (x : Int)) from by simp [go_sem])
  have c1_3 : w1.cell? ⟨w.heap.size + 1, 1, none⟩ = some (.int .u8 (d : Int)) := cell_on hb1 (show ((w.alloc (.cells #[.int .u8 (v : Int), .int .u8 (c : Int)] 23)).alloc (.cells #[.int .u8 (x : Int), .int .u8 (d : Int)] 23)).cell? ⟨w.heap.size + 1, 1, none⟩ = some (.int .u8 (d : Int)) from by simp [go_sem])
  have hw1 : Below w.heap.size w w1 := by (repeat (first | assumption | exact Below.refl _ _ | refine Below.drew ?_ | refine bel_drewN ?_ _ | refine Below.setCell ?_ (by first | omega | (simp; done) | (simp; omega)) _ | refine Below.alloc ?_ (by first | omega | (simp; done) | (simp; omega)) _ | refine bel_of ?_ (by assumption)))
  clear hb1
  go_wp2_with (fail)
  refine (lessC x d v c _ hx hd hv hc).mono ?_
  rintro e w2 ⟨v2, rfl, hr2, hb2⟩
  have R2_v1 : Row w2 ((w.alloc (.cells #[.int .u8 (v : Int), .int .u8 (c : Int)] 23)).alloc (.cells #[.int .u8 (x : Int), .int .u8 (d : Int)] 23)).heap.size v1 (lessM v c x d) := R1_v1.on hb2
  have R2_v2 := hr2
  have Hltv2 := hr2.lt
  have hm2 := hb2.size
  (try simp at hm2)
  have hz2 := hb2.size
  (try simp at hz2)
  have hl2_0 : w.heap.size < w2.heap.size := by omega
  have hl2_1 : w.heap.size + 1 < w2.heap.size := by omega
  have c2_0 : w2.cell? ⟨w.heap.size, 0, none⟩ = some (.int .u8 (v : Int)) := cell_on hb2 c1_0
  have c2_1 : w2.cell? ⟨w.heap.size, 1, none⟩ = some (.int .u8 (c : Int)) := cell_on hb2 c1_1
  have c2_2 : w2.cell? ⟨w.heap.size + 1, 0, none⟩ = some (.int .u8 (x : Int)) := cell_on hb2 c1_2
  have c2_3 : w2.cell? ⟨w.heap.size + 1, 1, none⟩ = some (.int .u8 (d : Int)) := cell_on hb2 c1_3
  have hw2 : Below w.heap.size w w2 := by (repeat (first | assumption | exact Below.refl _ _ | refine Below.drew ?_ | refine bel_drewN ?_ _ | refine Below.setCell ?_ (by first | omega | (simp; done) | (simp; omega)) _ | refine Below.alloc ?_ (by first | omega | (simp; done) | (simp; omega)) _ | refine bel_of ?_ (by assumption)))
  clear hb2 hz1 hl1_0 hl1_1 c1_0 c1_1 c1_2 c1_3 hw1
  go_wp2_with (fail)
  refine (rlessM v c x d _ hv hc hx hd).mono ?_
  rintro e w3 ⟨x1, rfl, hr3, hb3⟩
  have R3_v1 : Row w3 ((w.alloc (.cells #[.int .u8 (v : Int), .int .u8 (c : Int)] 23)).alloc (.cells #[.int .u8 (x : Int), .int .u8 (d : Int)] 23)).heap.size v1 (lessM v c x d) := R2_v1.on hb3
  have R3_v2 : Row w3 w1.heap.size v2 (lessM x d v c) := R2_v2.on hb3
  have R3_x1 := hr3
  have Hltx1 := hr3.lt
  have hm3 := hb3.size
  (try simp at hm3)
  have hz3 := hb3.size
  (try simp at hz3)
  have hl3_0 : w.heap.size < w3.heap.size := by omega
  have hl3_1 : w.heap.size + 1 < w3.heap.size := by omega
  have c3_0 : w3.cell? ⟨w.heap.size, 0, none⟩ = some (.int .u8 (v : Int)) := cell_on hb3 c2_0
  have c3_1 : w3.cell? ⟨w.heap.size, 1, none⟩ = some (.int .u8 (c : Int)) := cell_on hb3 c2_1
  have c3_2 : w3.cell? ⟨w.heap.size + 1, 0, none⟩ = some (.int .u8 (x : Int)) := cell_on hb3 c2_2
  have c3_3 : w3.cell? ⟨w.heap.size + 1, 1, none⟩ = some (.int .u8 (d : Int)) := cell_on hb3 c2_3
  have hw3 : Below w.heap.size w w3 := by (repeat (first | assumption | exact Below.refl _ _ | refine Below.drew ?_ | refine bel_drewN ?_ _ | refine Below.setCell ?_ (by first | omega | (simp; done) | (simp; omega)) _ | refine Below.alloc ?_ (by first | omega | (simp; done) | (simp; omega)) _ | refine bel_of ?_ (by assumption)))
  clear hb3 hz2 hl2_0 hl2_1 c2_0 c2_1 c2_2 c2_3 hw2
  go_wp2_with (fail)
  refine (rlessM x d v c _ hx hd hv hc).mono ?_
  rintro e w4 ⟨x2, rfl, hr4, hb4⟩
  have R4_v1 : Row w4 ((w.alloc (.cells #[.int .u8 (v : Int), .int .u8 (c : Int)] 23)).alloc (.cells #[.int .u8 (x : Int), .int .u8 (d : Int)] 23)).heap.size v1 (lessM v c x d) := R3_v1.on hb4
  have R4_v2 : Row w4 w1.heap.size v2 (lessM x d v c) := R3_v2.on hb4
  have R4_x1 : Row w4 w2.heap.size x1 (lessM v c x d) := R3_x1.on hb4
  have R4_x2 := hr4
  have Hltx2 := hr4.lt
  have hm4 := hb4.size
  (try simp at hm4)
  have hz4 := hb4.size
  (try simp at hz4)
  have hl4_0 : w.heap.size < w4.heap.size := by omega
  have hl4_1 : w.heap.size + 1 < w4.heap.size := by omega
  have c4_0 : w4.cell? ⟨w.heap.size, 0, none⟩ = some (.int .u8 (v : Int)) := cell_on hb4 c3_0
  have c4_1 : w4.cell? ⟨w.heap.size, 1, none⟩ = some (.int .u8 (c : Int)) := cell_on hb4 c3_1
  have c4_2 : w4.cell? ⟨w.heap.size + 1, 0, none⟩ = some (.int .u8 (x : Int)) := cell_on hb4 c3_2
  have c4_3 : w4.cell? ⟨w.heap.size + 1, 1, none⟩ = some (.int .u8 (d : Int)) := cell_on hb4 c3_3
  have hw4 : Below w.heap.size w w4 := by (repeat (first | assumption | exact Below.refl _ _ | refine Below.drew ?_ | refine bel_drewN ?_ _ | refine Below.setCell ?_ (by first | omega | (simp; done) | (simp; omega)) _ | refine Below.alloc ?_ (by first | omega | (simp; done) | (simp; omega)) _ | refine bel_of ?_ (by assumption)))
  clear hb4 hz3 hl3_0 hl3_1 c3_0 c3_1 c3_2 c3_3 hw3
  go_wp2_with (fail)
  refine (same_eq (lessM v c x d) hl1 _ _ _ _ _ R4_v1 R4_x1).mono ?_
  rintro e w5 ⟨rfl, hb5⟩
  have R5_v1 : Row w5 ((w.alloc (.cells #[.int .u8 (v : Int), .int .u8 (c : Int)] 23)).alloc (.cells #[.int .u8 (x : Int), .int .u8 (d : Int)] 23)).heap.size v1 (lessM v c x d) := R4_v1.on hb5
  have R5_v2 : Row w5 w1.heap.size v2 (lessM x d v c) := R4_v2.on hb5
  have R5_x1 : Row w5 w2.heap.size x1 (lessM v c x d) := R4_x1.on hb5
  have R5_x2 : Row w5 w3.heap.size x2 (lessM x d v c) := R4_x2.on hb5
  have hz5 := hb5.size
  (try simp at hz5)
  have hl5_0 : w.heap.size < w5.heap.size := by omega
  have hl5_1 : w.heap.size + 1 < w5.heap.size := by omega
  have c5_0 : w5.cell? ⟨w.heap.size, 0, none⟩ = some (.int .u8 (v : Int)) := cell_on hb5 c4_0
  have c5_1 : w5.cell? ⟨w.heap.size, 1, none⟩ = some (.int .u8 (c : Int)) := cell_on hb5 c4_1
  have c5_2 : w5.cell? ⟨w.heap.size + 1, 0, none⟩ = some (.int .u8 (x : Int)) := cell_on hb5 c4_2
  have c5_3 : w5.cell? ⟨w.heap.size + 1, 1, none⟩ = some (.int .u8 (d : Int)) := cell_on hb5 c4_3
  have hw5 : Below w.heap.size w w5 := by (repeat (first | assumption | exact Below.refl _ _ | refine Below.drew ?_ | refine bel_drewN ?_ _ | refine Below.setCell ?_ (by first | omega | (simp; done) | (simp; omega)) _ | refine Below.alloc ?_ (by first | omega | (simp; done) | (simp; omega)) _ | refine bel_of ?_ (by assumption)))
  clear hb5 hz4 hl4_0 hl4_1 c4_0 c4_1 c4_2 c4_3 hw4
  go_wp2_with (fail)
  refine (same_eq (lessM x d v c) hl2 _ _ _ _ _ R5_v2 R5_x2).mono ?_
  rintro e w6 ⟨rfl, hb6⟩
  have R6_v1 : Row w6 ((w.alloc (.cells #[.int .u8 (v : Int), .int .u8 (c : Int)] 23)).alloc (.cells #[.int .u8 (x : Int), .int .u8 (d : Int)] 23)).heap.size v1 (lessM v c x d) := R5_v1.on hb6
  have R6_v2 : Row w6 w1.heap.size v2 (lessM x d v c) := R5_v2.on hb6
  have R6_x1 : Row w6 w2.heap.size x1 (lessM v c x d) := R5_x1.on hb6
  have R6_x2 : Row w6 w3.heap.size x2 (lessM x d v c) := R5_x2.on hb6
  have hz6 := hb6.size
  (try simp at hz6)
  have hl6_0 : w.heap.size < w6.heap.size := by omega
  have hl6_1 : w.heap.size + 1 < w6.heap.size := by omega
  have c6_0 : w6.cell? ⟨w.heap.size, 0, none⟩ = some (.int .u8 (v : Int)) := cell_on hb6 c5_0
  have c6_1 : w6.cell? ⟨w.heap.size, 1, none⟩ = some (.int .u8 (c : Int)) := cell_on hb6 c5_1
  have c6_2 : w6.cell? ⟨w.heap.size + 1, 0, none⟩ = some (.int .u8 (x : Int)) := cell_on hb6 c5_2
  have c6_3 : w6.cell? ⟨w.heap.size + 1, 1, none⟩ = some (.int .u8 (d : Int)) := cell_on hb6 c5_3
  have hw6 : Below w.heap.size w w6 := by (repeat (first | assumption | exact Below.refl _ _ | refine Below.drew ?_ | refine bel_drewN ?_ _ | refine Below.setCell ?_ (by first | omega | (simp; done) | (simp; omega)) _ | refine Below.alloc ?_ (by first | omega | (simp; done) | (simp; omega)) _ | refine bel_of ?_ (by assumption)))
  clear hb6 hz5 hl5_0 hl5_1 c5_0 c5_1 c5_2 c5_3 hw5
  go_wp2_with (fail)
  refine (spoil_any (lessM v c x d) hl1 _ _ _ R6_v1 (by first | omega | (simp; omega))).mono ?_
  rintro e w7 ⟨rfl, hg7⟩
  have hz7 := hg7.size
  have hl7_0 : w.heap.size < w7.heap.size := by omega
  have hl7_1 : w.heap.size + 1 < w7.heap.size := by omega
  have c7_0 : w7.cell? ⟨w.heap.size, 0, none⟩ = some (.int .u8 (v : Int)) := hg7.cell c6_0 (fun e => by have h1 := (Hltv1 _ e.symm).1; simp at h1; omega)
  have c7_1 : w7.cell? ⟨w.heap.size, 1, none⟩ = some (.int .u8 (c : Int)) := hg7.cell c6_1 (fun e => by have h1 := (Hltv1 _ e.symm).1; simp at h1; omega)
  have c7_2 : w7.cell? ⟨w.heap.size + 1, 0, none⟩ = some (.int .u8 (x : Int)) := hg7.cell c6_2 (fun e => by have h1 := (Hltv1 _ e.symm).1; simp at h1; omega)
  have c7_3 : w7.cell? ⟨w.heap.size + 1, 1, none⟩ = some (.int .u8 (d : Int)) := hg7.cell c6_3 (fun e => by have h1 := (Hltv1 _ e.symm).1; simp at h1; omega)
  have R7_v2 : Row w7 w1.heap.size v2 (lessM x d v c) := World.ownsRow.kept R6_v2 hg7 (apart_rows Hltv1 Hltv2 (by omega))
  have R7_x1 : Row w7 w2.heap.size x1 (lessM v c x d) := World.ownsRow.kept R6_x1 hg7 (apart_rows Hltv1 Hltx1 (by omega))
  have R7_x2 : Row w7 w3.heap.size x2 (lessM x d v c) := World.ownsRow.kept R6_x2 hg7 (apart_rows Hltv1 Hltx2 (by omega))
  have hw7 : Below w.heap.size w w7 := bel_grown hw6 R6_v1 hg7 (by omega) (by first | omega | (simp; omega))
  clear hg7 hz6 hl6_0 hl6_1 c6_0 c6_1 c6_2 c6_3 hw6 R6_v1
  go_wp2_with (fail)
  refine (lessC v c x d _ hv hc hx hd).mono ?_
  rintro e w8 ⟨v3, rfl, hr8, hb8⟩
  have R8_v2 : Row w8 w1.heap.size v2 (lessM x d v c) := R7_v2.on hb8
  have R8_x1 : Row w8 w2.heap.size x1 (lessM v c x d) := R7_x1.on hb8
  have R8_x2 : Row w8 w3.heap.size x2 (lessM x d v c) := R7_x2.on hb8
  have R8_v3 := hr8
  have Hltv3 := hr8.lt
  have hm8 := hb8.size
  (try simp at hm8)
  have hz8 := hb8.size
  (try simp at hz8)
  have hl8_0 : w.heap.size < w8.heap.size := by omega
  have hl8_1 : w.heap.size + 1 < w8.heap.size := by omega
  have c8_0 : w8.cell? ⟨w.heap.size, 0, none⟩ = some (.int .u8 (v : Int)) := cell_on hb8 c7_0
  have c8_1 : w8.cell? ⟨w.heap.size, 1, none⟩ = some (.int .u8 (c : Int)) := cell_on hb8 c7_1
  have c8_2 : w8.cell? ⟨w.heap.size + 1, 0, none⟩ = some (.int .u8 (x : Int)) := cell_on hb8 c7_2
  have c8_3 : w8.cell? ⟨w.heap.size + 1, 1, none⟩ = some (.int .u8 (d : Int)) := cell_on hb8 c7_3
  have hw8 : Below w.heap.size w w8 := by (repeat (first | assumption | exact Below.refl _ _ | refine Below.drew ?_ | refine bel_drewN ?_ _ | refine Below.setCell ?_ (by first | omega | (simp; done) | (simp; omega)) _ | refine Below.alloc ?_ (by first | omega | (simp; done) | (simp; omega)) _ | refine bel_of ?_ (by assumption)))
  clear hb8 hz7 hl7_0 hl7_1 c7_0 c7_1 c7_2 c7_3 hw7
  go_wp2_with (fail)
  refine (same_eq (lessM v c x d) hl1 _ _ _ _ _ R8_v3 R8_x1).mono ?_
  rintro e w9 ⟨rfl, hb9⟩
  have R9_v2 : Row w9 w1.heap.size v2 (lessM x d v c) := R8_v2.on hb9
  have R9_x1 : Row w9 w2.heap.size x1 (lessM v c x d) := R8_x1.on hb9
  have R9_x2 : Row w9 w3.heap.size x2 (lessM x d v c) := R8_x2.on hb9
  have R9_v3 : Row w9 w7.heap.size v3 (lessM v c x d) := R8_v3.on hb9
  have hz9 := hb9.size
  (try simp at hz9)
  have hl9_0 : w.heap.size < w9.heap.size := by omega
  have hl9_1 : w.heap.size + 1 < w9.heap.size := by omega
  have c9_0 : w9.cell? ⟨w.heap.size, 0, none⟩ = some (.int .u8 (v : Int)) := cell_on hb9 c8_0
  have c9_1 : w9.cell? ⟨w.heap.size, 1, none⟩ = some (.int .u8 (c : Int)) := cell_on hb9 c8_1
  have c9_2 : w9.cell? ⟨w.heap.size + 1, 0, none⟩ = some (.int .u8 (x : Int)) := cell_on hb9 c8_2
  have c9_3 : w9.cell? ⟨w.heap.size + 1, 1, none⟩ = some (.int .u8 (d : Int)) := cell_on hb9 c8_3
  have hw9 : Below w.heap.size w w9 := by (repeat (first | assumption | exact Below.refl _ _ | refine Below.drew ?_ | refine bel_drewN ?_ _ | refine Below.setCell ?_ (by first | omega | (simp; done) | (simp; omega)) _ | refine Below.alloc ?_ (by first | omega | (simp; done) | (simp; omega)) _ | refine bel_of ?_ (by assumption)))
  clear hb9 hz8 hl8_0 hl8_1 c8_0 c8_1 c8_2 c8_3 hw8
  go_wp2_with (fail)
  refine (same_eq (lessM x d v c) hl2 _ _ _ _ _ R9_v2 R9_x2).mono ?_
  rintro e w10 ⟨rfl, hb10⟩
  have R10_v2 : Row w10 w1.heap.size v2 (lessM x d v c) := R9_v2.on hb10
  have R10_x1 : Row w10 w2.heap.size x1 (lessM v c x d) := R9_x1.on hb10
  have R10_x2 : Row w10 w3.heap.size x2 (lessM x d v c) := R9_x2.on hb10
  have R10_v3 : Row w10 w7.heap.size v3 (lessM v c x d) := R9_v3.on hb10
  have hz10 := hb10.size
  (try simp at hz10)
  have hl10_0 : w.heap.size < w10.heap.size := by omega
  have hl10_1 : w.heap.size + 1 < w10.heap.size := by omega
  have c10_0 : w10.cell? ⟨w.heap.size, 0, none⟩ = some (.int .u8 (v : Int)) := cell_on hb10 c9_0
  have c10_1 : w10.cell? ⟨w.heap.size, 1, none⟩ = some (.int .u8 (c : Int)) := cell_on hb10 c9_1
  have c10_2 : w10.cell? ⟨w.heap.size + 1, 0, none⟩ = some (.int .u8 (x : Int)) := cell_on hb10 c9_2
  have c10_3 : w10.cell? ⟨w.heap.size + 1, 1, none⟩ = some (.int .u8 (d : Int)) := cell_on hb10 c9_3
  have hw10 : Below w.heap.size w w10 := by (repeat (first | assumption | exact Below.refl _ _ | refine Below.drew ?_ | refine bel_drewN ?_ _ | refine Below.setCell ?_ (by first | omega | (simp; done) | (simp; omega)) _ | refine Below.alloc ?_ (by first | omega | (simp; done) | (simp; omega)) _ | refine bel_of ?_ (by assumption)))
  clear hb10 hz9 hl9_0 hl9_1 c9_0 c9_1 c9_2 c9_3 hw9
  go_wp2_with (fail)
  refine (awakeM _).mono ?_
  rintro e w11 ⟨rfl, hb11⟩
  have hz11 := hb11.size
  (try simp at hz11)
  have hl11_0 : w.heap.size < w11.heap.size := by omega
  have hl11_1 : w.heap.size + 1 < w11.heap.size := by omega
  have c11_0 : w11.cell? ⟨w.heap.size, 0, none⟩ = some (.int .u8 (v : Int)) := cell_on hb11 c10_0
  have c11_1 : w11.cell? ⟨w.heap.size, 1, none⟩ = some (.int .u8 (c : Int)) := cell_on hb11 c10_1
  have c11_2 : w11.cell? ⟨w.heap.size + 1, 0, none⟩ = some (.int .u8 (x : Int)) := cell_on hb11 c10_2
  have c11_3 : w11.cell? ⟨w.heap.size + 1, 1, none⟩ = some (.int .u8 (d : Int)) := cell_on hb11 c10_3
  have hw11 : Below w.heap.size w w11 := by (repeat (first | assumption | exact Below.refl _ _ | refine Below.drew ?_ | refine bel_drewN ?_ _ | refine Below.setCell ?_ (by first | omega | (simp; done) | (simp; omega)) _ | refine Below.alloc ?_ (by first | omega | (simp; done) | (simp; omega)) _ | refine bel_of ?_ (by assumption)))
  clear hb11 hz10 hl10_0 hl10_1 c10_0 c10_1 c10_2 c10_3 hw10
  go_wp2_with (fail)
  go_ret
  exact ⟨rfl, by (repeat (first | assumption | exact Below.refl _ _ | refine Below.drew ?_ | refine bel_drewN ?_ _ | refine Below.setCell ?_ (by first | omega | (simp; done) | (simp; omega)) _ | refine Below.alloc ?_ (by first | omega | (simp; done) | (simp; omega)) _ | refine bel_of ?_ (by assumption)))⟩

set_option maxRecDepth 100000 in
theorem maskLess_lifted (os : Os) (started : os.Started) (H : Type) (enc : TypeId × Value → H) :
    ReturnsInHanded {} Try.checked os 6 .any (Rows.maskLessSpec.pre6 enc Try.prog Try.f6 Rows.maskLessRow.domain false) (Rows.maskLessSpec.post enc Try.prog Try.f6 false true false false) := by
  refine returnsInHanded_of_change (C := Try.checked) own started (by kernel_rfl) Try.func6
    (ChangeSpec.witness6 (enc := enc) (C := Try.checked) false ⟨#[], #[.agg #[.int .u8 0, .int .u8 0], .agg #[.int .u8 0, .int .u8 0]], []⟩ 8 (by kernel_rfl) (by kernel_rfl) (by kernel_rfl) (by kernel_rfl)) ?_
  intro W base args ds gs before hval0 hW hcnd _
  have hval : ∀ (j : Nat) t v, Try.f6.params[j]? = some t → args[j]? = some v → Value.okWide Try.prog W .any base t v := hval0
  have hW' := hW
  obtain ⟨p, q, hA0, hV, rfl, hfz, hnd⟩ := hW
  have hA : DataW.TrodAll enc Try.prog W 0 (fun _ => true) true Try.f6.params.toList args.toList ds p := hA0
  rw [Try.params6] at hA hval
  obtain ⟨v0, vs0, d0, ds0, p0, q0, hargs, rfl, rfl, h0, r0⟩ := trodAll_cons hA
  obtain ⟨v1, vs1, d1, ds1, p1, q1, rfl, rfl, rfl, h1, r1⟩ := trodAll_cons r0
  obtain ⟨rfl, rfl, rfl⟩ := trodAll_nil r1
  obtain rfl : args = #[v0, v1] := by cases args; simp_all
  obtain ⟨rfl, rfl⟩ := trodVars_none hV
  obtain ⟨a0, n0, rfl, rfl, rfl, w0, x0⟩ := open_mk (hval 0 23 v0 rfl rfl) h0
  obtain ⟨b0, rfl, t0⟩ := wf_u8 w0
  obtain ⟨c0, rfl, u0⟩ := wf_u8 x0
  obtain ⟨a1, n1, rfl, rfl, rfl, w1, x1⟩ := open_mk (hval 1 23 v1 rfl rfl) h1
  obtain ⟨b1, rfl, t1⟩ := wf_u8 w1
  obtain ⟨c1, rfl, u1⟩ := wf_u8 x1
  clear hA0 hval0
  simp only [List.append_nil] at hW'
  refine (maskLess_walk b0 c0 t0 u0 b1 c1 t1 u1 W ).mono fun e W' ⟨he, bel⟩ => ?_
  subst he
  exact ⟨_, rfl, _, _, _, [], _, [], hW', trodAll_mk1 (shut_bool Try.underlying4 _), (trodAll_cons_mk (shut_mk w0 x0) (trodAll_cons_mk (shut_mk w1 x1) trodAll_mk0)), rfl, bel.frame _, fun h => by cases h⟩

/-- The given statement. -/
theorem maskLess_holds : Rows.MaskLessSaid :=
  OpenClaim.holds_of_wide 6 Try.f6 rfl rfl rfl rfl rfl rfl rfl ⟨rfl, rfl, rfl, rfl, rfl⟩ rfl rfl rfl rfl rfl (by kernel_rfl) Try.func6 (by kernel_rfl)
    (of_decide_eq_true (by kernel_rfl)) (by unfold Func.isWrapper; first | (rw [if_pos (by decide +kernel)]; kernel_rfl) | (rw [if_neg (by decide +kernel)]; exact ⟨rfl, rfl⟩))
    (fun os started H enc _ => maskLess_lifted os started H enc)
#print axioms maskLess_holds
end Go.Proofs.Ytphfjhkbbodfaaa
