/-
  The statements' own examples (awake).
-/
import Derived.Test.YtphfjhkbbodfaaaMkL
import Derived.Test.YtphfjhkbbodfaaaMkH
namespace Go.Proofs.Ytphfjhkbbodfaaa
open Go.RowKit
set_option linter.unusedVariables false
set_option linter.unusedSimpArgs false

theorem srcB_two (w : World) (a b : Nat) : SrcB (w.alloc (.cells #[.int .u8 a, .int .u8 b] 5)) (.slice (some ⟨w.heap.size, 0, none⟩) 2 2) [a, b] := by
  refine ⟨_, 2, rfl, fun _ => ⟨_, 0, rfl, fun k hk => ?_⟩⟩
  obtain rfl | rfl : k = 0 ∨ k = 1 := by simp at hk; omega
  · simp [go_sem]
  · simp [go_sem]
theorem less_ex (w : World) : Calls Try.prog 22 #[.agg #[.int .u8 4, .int .u8 252], .agg #[.int .u8 6, .int .u8 255]] w fun e w' => ∃ v' : Value, e = .returned v' ∧ Row w' w.heap.size v' [(4, 254), (7, 255)] ∧ Below w.heap.size w w' := by
  have := lessC 4 252 6 255 w (by decide) (by decide) (by decide) (by decide)
  rw [show lessM 4 252 6 255 = [(4, 254), (7, 255)] by decide +kernel] at this
  exact this
theorem hull_ex (v : Value) (w : World) (h : SrcB w v [6, 17]) : Calls Try.prog 26 #[v] w fun e w' => e = .returned (.tuple #[.agg #[.int .u8 0, .int .u8 232], .int .i64 0]) ∧ Below w.heap.size w w' := by
  have := hull_some [6, 17] v w h (by decide) (by intro p hp; simp at hp; omega) 6 ⟨by decide, rfl⟩
  rw [show 6 &&& hullC 6 [6, 17] = 0 by decide +kernel, show hullC 6 [6, 17] = 232 by decide +kernel] at this
  exact this
theorem meet_ex (w : World) : Calls Try.prog 18 #[.agg #[.int .u8 6, .int .u8 255], .agg #[.int .u8 0, .int .u8 0]] w fun e w' => e = .returned (.tuple #[.agg #[.int .u8 6, .int .u8 255], .bool true]) ∧ Below w.heap.size w w' := meet_yes 6 255 0 0 w (by decide) (by decide) (by decide) (by decide) (by decide +kernel)
theorem has6_ex (w : World) : Calls Try.prog 12 #[.agg #[.int .u8 6, .int .u8 255], .int .u8 6] w fun e w' => e = .returned (.bool true) ∧ Below w.heap.size w w' := by
  have := hasC 6 255 6 w (by decide) (by decide)
  rw [show hasM 6 255 6 = true by decide +kernel] at this
  exact this
theorem has7_ex (w : World) : Calls Try.prog 12 #[.agg #[.int .u8 6, .int .u8 255], .int .u8 7] w fun e w' => e = .returned (.bool false) ∧ Below w.heap.size w w' := by
  have := hasC 6 255 7 w (by decide) (by decide)
  rw [show hasM 6 255 7 = false by decide +kernel] at this
  exact this
theorem cnt_ex (w : World) : Calls Try.prog 14 #[.agg #[.int .u8 0, .int .u8 0]] w fun e w' => e = .returned (.int .i64 256) ∧ Below w.heap.size w w' := by
  have := countM 0 0 w (by decide) (by decide)
  rw [show cntM 0 0 = 256 by decide +kernel] at this
  exact this
theorem wi1_ex (w : World) : Calls Try.prog 20 #[.agg #[.int .u8 6, .int .u8 255], .agg #[.int .u8 0, .int .u8 0]] w fun e w' => e = .returned (.bool true) ∧ Below w.heap.size w w' := by
  have := withinM 6 255 0 0 w (by decide) (by decide) (by decide) (by decide)
  rw [show wiM 6 255 0 0 = true by decide +kernel] at this
  exact this
theorem wi2_ex (w : World) : Calls Try.prog 20 #[.agg #[.int .u8 0, .int .u8 0], .agg #[.int .u8 6, .int .u8 255]] w fun e w' => e = .returned (.bool false) ∧ Below w.heap.size w w' := by
  have := withinM 0 0 6 255 w (by decide) (by decide) (by decide) (by decide)
  rw [show wiM 0 0 6 255 = false by decide +kernel] at this
  exact this
theorem chk_ex (w : World) : Calls Try.prog 10 #[.agg #[.int .u8 1, .int .u8 0]] w fun e w' => e = .returned (.int .i64 40) ∧ Below w.heap.size w w' := by
  have := checkM 1 0 w (by decide) (by decide)
  rw [show chk 1 0 = 40 by decide +kernel] at this
  exact this
set_option maxHeartbeats 2000000 in
theorem awakeM (w : World) : Calls Try.prog 9 #[] w fun e w' => e = .returned (.bool true) ∧ Below w.heap.size w w' := by
  go_enter Try.func9, Try.ntmps9
  go_wp2_with (fail)
  refine (less_ex _).mono ?_
  rintro e w1 ⟨vA, rfl, rA, hb1⟩
  have hz1 := hb1.size
  (try simp at hz1)
  have A_1 : Hid (Row w1 w.heap.size vA ([(4, 254), (7, 255)])) := rA.base (by first | omega | (simp; done) | (simp; omega))
  clear rA
  have p0_1 : w1.cell? ⟨w.heap.size, 0, none⟩ = some (.int .u8 0) := cell_on hb1 (show ((w.alloc (.cells #[.int .u8 0, .int .u8 0] 23)).alloc (.cells #[.int .u8 6, .int .u8 255] 23)).cell? ⟨w.heap.size, 0, none⟩ = some (.int .u8 0) from by simp [go_sem])
  have p1_1 : w1.cell? ⟨w.heap.size, 1, none⟩ = some (.int .u8 0) := cell_on hb1 (show ((w.alloc (.cells #[.int .u8 0, .int .u8 0] 23)).alloc (.cells #[.int .u8 6, .int .u8 255] 23)).cell? ⟨w.heap.size, 1, none⟩ = some (.int .u8 0) from by simp [go_sem])
  have s0_1 : w1.cell? ⟨w.heap.size + 1, 0, none⟩ = some (.int .u8 6) := cell_on hb1 (show ((w.alloc (.cells #[.int .u8 0, .int .u8 0] 23)).alloc (.cells #[.int .u8 6, .int .u8 255] 23)).cell? ⟨w.heap.size + 1, 0, none⟩ = some (.int .u8 6) from by simp [go_sem])
  have s1_1 : w1.cell? ⟨w.heap.size + 1, 1, none⟩ = some (.int .u8 255) := cell_on hb1 (show ((w.alloc (.cells #[.int .u8 0, .int .u8 0] 23)).alloc (.cells #[.int .u8 6, .int .u8 255] 23)).cell? ⟨w.heap.size + 1, 1, none⟩ = some (.int .u8 255) from by simp [go_sem])
  have hg1_0 : w.heap.size < w1.heap.size := by omega
  have hg1_1 : w.heap.size + 1 < w1.heap.size := by omega
  have hl1 : w.heap.size ≤ w1.heap.size := by omega
  have hw1 : Hid (Below w.heap.size w w1) := (((Below.refl _ _).alloc (by first | omega | (simp; done) | (simp; omega)) _).alloc (by first | omega | (simp; done) | (simp; omega)) _).trans (hb1.mono (by first | omega | (simp; done) | (simp; omega)))
  clear hb1
  go_wp2_with (fail)
  refine (hull_ex _ _ (srcB_two _ 6 17)).mono ?_
  rintro e w2 ⟨rfl, hb2⟩
  have hz2 := hb2.size
  (try simp at hz2)
  have p0_2 : w2.cell? ⟨w.heap.size, 0, none⟩ = some (.int .u8 0) := cell_on hb2 (cell_alloc p0_1)
  have p1_2 : w2.cell? ⟨w.heap.size, 1, none⟩ = some (.int .u8 0) := cell_on hb2 (cell_alloc p1_1)
  have s0_2 : w2.cell? ⟨w.heap.size + 1, 0, none⟩ = some (.int .u8 6) := cell_on hb2 (cell_alloc s0_1)
  have s1_2 : w2.cell? ⟨w.heap.size + 1, 1, none⟩ = some (.int .u8 255) := cell_on hb2 (cell_alloc s1_1)
  have A_2 : Hid (Row w2 w.heap.size vA ([(4, 254), (7, 255)])) := Row.on (Row.alloc A_1.out _) hb2
  have hg2_0 : w.heap.size < w2.heap.size := by omega
  have hg2_1 : w.heap.size + 1 < w2.heap.size := by omega
  have hl2 : w.heap.size ≤ w2.heap.size := by omega
  have hw2 : Hid (Below w.heap.size w w2) := (hw1.out.alloc (by first | omega | (simp; done) | (simp; omega)) _).trans (hb2.mono (by first | omega | (simp; done) | (simp; omega)))
  clear hb2 p0_1 p1_1 s0_1 s1_1 A_1 hg1_0 hg1_1 hw1
  go_wp2_with (fail)
  refine (meet_ex _).mono ?_
  rintro e w3 ⟨rfl, hb3⟩
  have hz3 := hb3.size
  (try simp at hz3)
  have p0_3 : w3.cell? ⟨w.heap.size, 0, none⟩ = some (.int .u8 0) := cell_on hb3 (cell_alloc p0_2)
  have p1_3 : w3.cell? ⟨w.heap.size, 1, none⟩ = some (.int .u8 0) := cell_on hb3 (cell_alloc p1_2)
  have s0_3 : w3.cell? ⟨w.heap.size + 1, 0, none⟩ = some (.int .u8 6) := cell_on hb3 (cell_alloc s0_2)
  have s1_3 : w3.cell? ⟨w.heap.size + 1, 1, none⟩ = some (.int .u8 255) := cell_on hb3 (cell_alloc s1_2)
  have A_3 : Hid (Row w3 w.heap.size vA ([(4, 254), (7, 255)])) := Row.on (Row.alloc A_2.out _) hb3
  have h0_3 : w3.cell? ⟨w2.heap.size, 0, none⟩ = some (.int .u8 0) := cell_on hb3 (show (w2.alloc (.cells #[.int .u8 0, .int .u8 232] 23)).cell? ⟨w2.heap.size, 0, none⟩ = some (.int .u8 0) from by simp [go_sem])
  have h1_3 : w3.cell? ⟨w2.heap.size, 1, none⟩ = some (.int .u8 232) := cell_on hb3 (show (w2.alloc (.cells #[.int .u8 0, .int .u8 232] 23)).cell? ⟨w2.heap.size, 1, none⟩ = some (.int .u8 232) from by simp [go_sem])
  have hg3_0 : w.heap.size < w3.heap.size := by omega
  have hg3_1 : w.heap.size + 1 < w3.heap.size := by omega
  have hg3_2 : w2.heap.size < w3.heap.size := by omega
  have hl3 : w.heap.size ≤ w3.heap.size := by omega
  have hw3 : Hid (Below w.heap.size w w3) := (hw2.out.alloc (by first | omega | (simp; done) | (simp; omega)) _).trans (hb3.mono (by first | omega | (simp; done) | (simp; omega)))
  clear hb3 p0_2 p1_2 s0_2 s1_2 A_2 hg2_0 hg2_1 hw2
  go_wp2_with (fail)
  refine (has6_ex _).mono ?_
  rintro e w4 ⟨rfl, hb4⟩
  have hz4 := hb4.size
  (try simp at hz4)
  have p0_4 : w4.cell? ⟨w.heap.size, 0, none⟩ = some (.int .u8 0) := cell_on hb4 (cell_alloc p0_3)
  have p1_4 : w4.cell? ⟨w.heap.size, 1, none⟩ = some (.int .u8 0) := cell_on hb4 (cell_alloc p1_3)
  have s0_4 : w4.cell? ⟨w.heap.size + 1, 0, none⟩ = some (.int .u8 6) := cell_on hb4 (cell_alloc s0_3)
  have s1_4 : w4.cell? ⟨w.heap.size + 1, 1, none⟩ = some (.int .u8 255) := cell_on hb4 (cell_alloc s1_3)
  have A_4 : Hid (Row w4 w.heap.size vA ([(4, 254), (7, 255)])) := Row.on (Row.alloc A_3.out _) hb4
  have h0_4 : w4.cell? ⟨w2.heap.size, 0, none⟩ = some (.int .u8 0) := cell_on hb4 (cell_alloc h0_3)
  have h1_4 : w4.cell? ⟨w2.heap.size, 1, none⟩ = some (.int .u8 232) := cell_on hb4 (cell_alloc h1_3)
  have m0_4 : w4.cell? ⟨w3.heap.size, 0, none⟩ = some (.int .u8 6) := cell_on hb4 (show (w3.alloc (.cells #[.int .u8 6, .int .u8 255] 23)).cell? ⟨w3.heap.size, 0, none⟩ = some (.int .u8 6) from by simp [go_sem])
  have m1_4 : w4.cell? ⟨w3.heap.size, 1, none⟩ = some (.int .u8 255) := cell_on hb4 (show (w3.alloc (.cells #[.int .u8 6, .int .u8 255] 23)).cell? ⟨w3.heap.size, 1, none⟩ = some (.int .u8 255) from by simp [go_sem])
  have hg4_0 : w.heap.size < w4.heap.size := by omega
  have hg4_1 : w.heap.size + 1 < w4.heap.size := by omega
  have hg4_2 : w2.heap.size < w4.heap.size := by omega
  have hg4_3 : w3.heap.size < w4.heap.size := by omega
  have hl4 : w.heap.size ≤ w4.heap.size := by omega
  have hw4 : Hid (Below w.heap.size w w4) := (hw3.out.alloc (by first | omega | (simp; done) | (simp; omega)) _).trans (hb4.mono (by first | omega | (simp; done) | (simp; omega)))
  clear hb4 p0_3 p1_3 s0_3 s1_3 A_3 h0_3 h1_3 hg3_0 hg3_1 hg3_2 hw3
  go_wp2_with (fail)
  refine (has7_ex _).mono ?_
  rintro e w5 ⟨rfl, hb5⟩
  have hz5 := hb5.size
  (try simp at hz5)
  have p0_5 : w5.cell? ⟨w.heap.size, 0, none⟩ = some (.int .u8 0) := cell_on hb5 p0_4
  have p1_5 : w5.cell? ⟨w.heap.size, 1, none⟩ = some (.int .u8 0) := cell_on hb5 p1_4
  have s0_5 : w5.cell? ⟨w.heap.size + 1, 0, none⟩ = some (.int .u8 6) := cell_on hb5 s0_4
  have s1_5 : w5.cell? ⟨w.heap.size + 1, 1, none⟩ = some (.int .u8 255) := cell_on hb5 s1_4
  have A_5 : Hid (Row w5 w.heap.size vA ([(4, 254), (7, 255)])) := Row.on A_4.out hb5
  have h0_5 : w5.cell? ⟨w2.heap.size, 0, none⟩ = some (.int .u8 0) := cell_on hb5 h0_4
  have h1_5 : w5.cell? ⟨w2.heap.size, 1, none⟩ = some (.int .u8 232) := cell_on hb5 h1_4
  have m0_5 : w5.cell? ⟨w3.heap.size, 0, none⟩ = some (.int .u8 6) := cell_on hb5 m0_4
  have m1_5 : w5.cell? ⟨w3.heap.size, 1, none⟩ = some (.int .u8 255) := cell_on hb5 m1_4
  have hg5_0 : w.heap.size < w5.heap.size := by omega
  have hg5_1 : w.heap.size + 1 < w5.heap.size := by omega
  have hg5_2 : w2.heap.size < w5.heap.size := by omega
  have hg5_3 : w3.heap.size < w5.heap.size := by omega
  have hl5 : w.heap.size ≤ w5.heap.size := by omega
  have hw5 : Hid (Below w.heap.size w w5) := hw4.out.trans (hb5.mono (by first | omega | (simp; done) | (simp; omega)))
  clear hb5 p0_4 p1_4 s0_4 s1_4 A_4 h0_4 h1_4 m0_4 m1_4 hg4_0 hg4_1 hg4_2 hg4_3 hw4
  go_wp2_with (fail)
  refine (cnt_ex _).mono ?_
  rintro e w6 ⟨rfl, hb6⟩
  have hz6 := hb6.size
  (try simp at hz6)
  have p0_6 : w6.cell? ⟨w.heap.size, 0, none⟩ = some (.int .u8 0) := cell_on hb6 p0_5
  have p1_6 : w6.cell? ⟨w.heap.size, 1, none⟩ = some (.int .u8 0) := cell_on hb6 p1_5
  have s0_6 : w6.cell? ⟨w.heap.size + 1, 0, none⟩ = some (.int .u8 6) := cell_on hb6 s0_5
  have s1_6 : w6.cell? ⟨w.heap.size + 1, 1, none⟩ = some (.int .u8 255) := cell_on hb6 s1_5
  have A_6 : Hid (Row w6 w.heap.size vA ([(4, 254), (7, 255)])) := Row.on A_5.out hb6
  have h0_6 : w6.cell? ⟨w2.heap.size, 0, none⟩ = some (.int .u8 0) := cell_on hb6 h0_5
  have h1_6 : w6.cell? ⟨w2.heap.size, 1, none⟩ = some (.int .u8 232) := cell_on hb6 h1_5
  have m0_6 : w6.cell? ⟨w3.heap.size, 0, none⟩ = some (.int .u8 6) := cell_on hb6 m0_5
  have m1_6 : w6.cell? ⟨w3.heap.size, 1, none⟩ = some (.int .u8 255) := cell_on hb6 m1_5
  have hg6_0 : w.heap.size < w6.heap.size := by omega
  have hg6_1 : w.heap.size + 1 < w6.heap.size := by omega
  have hg6_2 : w2.heap.size < w6.heap.size := by omega
  have hg6_3 : w3.heap.size < w6.heap.size := by omega
  have hl6 : w.heap.size ≤ w6.heap.size := by omega
  have hw6 : Hid (Below w.heap.size w w6) := hw5.out.trans (hb6.mono (by first | omega | (simp; done) | (simp; omega)))
  clear hb6 p0_5 p1_5 s0_5 s1_5 A_5 h0_5 h1_5 m0_5 m1_5 hg5_0 hg5_1 hg5_2 hg5_3 hw5
  go_wp2_with (fail)
  refine (wi1_ex _).mono ?_
  rintro e w7 ⟨rfl, hb7⟩
  have hz7 := hb7.size
  (try simp at hz7)
  have p0_7 : w7.cell? ⟨w.heap.size, 0, none⟩ = some (.int .u8 0) := cell_on hb7 p0_6
  have p1_7 : w7.cell? ⟨w.heap.size, 1, none⟩ = some (.int .u8 0) := cell_on hb7 p1_6
  have s0_7 : w7.cell? ⟨w.heap.size + 1, 0, none⟩ = some (.int .u8 6) := cell_on hb7 s0_6
  have s1_7 : w7.cell? ⟨w.heap.size + 1, 1, none⟩ = some (.int .u8 255) := cell_on hb7 s1_6
  have A_7 : Hid (Row w7 w.heap.size vA ([(4, 254), (7, 255)])) := Row.on A_6.out hb7
  have h0_7 : w7.cell? ⟨w2.heap.size, 0, none⟩ = some (.int .u8 0) := cell_on hb7 h0_6
  have h1_7 : w7.cell? ⟨w2.heap.size, 1, none⟩ = some (.int .u8 232) := cell_on hb7 h1_6
  have m0_7 : w7.cell? ⟨w3.heap.size, 0, none⟩ = some (.int .u8 6) := cell_on hb7 m0_6
  have m1_7 : w7.cell? ⟨w3.heap.size, 1, none⟩ = some (.int .u8 255) := cell_on hb7 m1_6
  have hg7_0 : w.heap.size < w7.heap.size := by omega
  have hg7_1 : w.heap.size + 1 < w7.heap.size := by omega
  have hg7_2 : w2.heap.size < w7.heap.size := by omega
  have hg7_3 : w3.heap.size < w7.heap.size := by omega
  have hl7 : w.heap.size ≤ w7.heap.size := by omega
  have hw7 : Hid (Below w.heap.size w w7) := hw6.out.trans (hb7.mono (by first | omega | (simp; done) | (simp; omega)))
  clear hb7 p0_6 p1_6 s0_6 s1_6 A_6 h0_6 h1_6 m0_6 m1_6 hg6_0 hg6_1 hg6_2 hg6_3 hw6
  go_wp2_with (fail)
  refine (wi2_ex _).mono ?_
  rintro e w8 ⟨rfl, hb8⟩
  have hz8 := hb8.size
  (try simp at hz8)
  have p0_8 : w8.cell? ⟨w.heap.size, 0, none⟩ = some (.int .u8 0) := cell_on hb8 p0_7
  have p1_8 : w8.cell? ⟨w.heap.size, 1, none⟩ = some (.int .u8 0) := cell_on hb8 p1_7
  have s0_8 : w8.cell? ⟨w.heap.size + 1, 0, none⟩ = some (.int .u8 6) := cell_on hb8 s0_7
  have s1_8 : w8.cell? ⟨w.heap.size + 1, 1, none⟩ = some (.int .u8 255) := cell_on hb8 s1_7
  have A_8 : Hid (Row w8 w.heap.size vA ([(4, 254), (7, 255)])) := Row.on A_7.out hb8
  have h0_8 : w8.cell? ⟨w2.heap.size, 0, none⟩ = some (.int .u8 0) := cell_on hb8 h0_7
  have h1_8 : w8.cell? ⟨w2.heap.size, 1, none⟩ = some (.int .u8 232) := cell_on hb8 h1_7
  have m0_8 : w8.cell? ⟨w3.heap.size, 0, none⟩ = some (.int .u8 6) := cell_on hb8 m0_7
  have m1_8 : w8.cell? ⟨w3.heap.size, 1, none⟩ = some (.int .u8 255) := cell_on hb8 m1_7
  have hg8_0 : w.heap.size < w8.heap.size := by omega
  have hg8_1 : w.heap.size + 1 < w8.heap.size := by omega
  have hg8_2 : w2.heap.size < w8.heap.size := by omega
  have hg8_3 : w3.heap.size < w8.heap.size := by omega
  have hl8 : w.heap.size ≤ w8.heap.size := by omega
  have hw8 : Hid (Below w.heap.size w w8) := hw7.out.trans (hb8.mono (by first | omega | (simp; done) | (simp; omega)))
  clear hb8 p0_7 p1_7 s0_7 s1_7 A_7 h0_7 h1_7 m0_7 m1_7 hg7_0 hg7_1 hg7_2 hg7_3 hw7
  obtain ⟨ad, cap, rfl, hcap, hat⟩ := A_8.out.form
  obtain ⟨g, rfl, hgb, hgl, hc⟩ := hat (by decide)
  obtain ⟨x0, x1⟩ := hc 0 (by decide)
  obtain ⟨x2, x3⟩ := hc 1 (by decide)
  simp at x0 x1 x2 x3
  clear hat hc A_8
  go_wp2_with (fail)
  refine (chk_ex _).mono ?_
  rintro e w9 ⟨rfl, hb9⟩
  have hz9 := hb9.size
  (try simp at hz9)
  have p0_9 : w9.cell? ⟨w.heap.size, 0, none⟩ = some (.int .u8 0) := cell_on hb9 p0_8
  have p1_9 : w9.cell? ⟨w.heap.size, 1, none⟩ = some (.int .u8 0) := cell_on hb9 p1_8
  have s0_9 : w9.cell? ⟨w.heap.size + 1, 0, none⟩ = some (.int .u8 6) := cell_on hb9 s0_8
  have s1_9 : w9.cell? ⟨w.heap.size + 1, 1, none⟩ = some (.int .u8 255) := cell_on hb9 s1_8
  have h0_9 : w9.cell? ⟨w2.heap.size, 0, none⟩ = some (.int .u8 0) := cell_on hb9 h0_8
  have h1_9 : w9.cell? ⟨w2.heap.size, 1, none⟩ = some (.int .u8 232) := cell_on hb9 h1_8
  have m0_9 : w9.cell? ⟨w3.heap.size, 0, none⟩ = some (.int .u8 6) := cell_on hb9 m0_8
  have m1_9 : w9.cell? ⟨w3.heap.size, 1, none⟩ = some (.int .u8 255) := cell_on hb9 m1_8
  have x0_9 : w9.cell? ⟨g, 0, none⟩ = some (.int .u8 4) := cell_on hb9 x0
  have x1_9 : w9.cell? ⟨g, 1, none⟩ = some (.int .u8 254) := cell_on hb9 x1
  have x2_9 : w9.cell? ⟨g, 2, none⟩ = some (.int .u8 7) := cell_on hb9 x2
  have x3_9 : w9.cell? ⟨g, 3, none⟩ = some (.int .u8 255) := cell_on hb9 x3
  have hg9_0 : w.heap.size < w9.heap.size := by omega
  have hg9_1 : w.heap.size + 1 < w9.heap.size := by omega
  have hg9_2 : w2.heap.size < w9.heap.size := by omega
  have hg9_3 : w3.heap.size < w9.heap.size := by omega
  have hg9_4 : g < w9.heap.size := by omega
  have hl9 : w.heap.size ≤ w9.heap.size := by omega
  have hw9 : Hid (Below w.heap.size w w9) := hw8.out.trans (hb9.mono (by first | omega | (simp; done) | (simp; omega)))
  clear hb9 p0_8 p1_8 s0_8 s1_8 h0_8 h1_8 m0_8 m1_8 x0 x1 x2 x3 hg8_0 hg8_1 hg8_2 hg8_3 hw8
  go_wp2
  go_ret
  exact ⟨rfl, hw9.out⟩
end Go.Proofs.Ytphfjhkbbodfaaa
