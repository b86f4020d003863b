/-
  The statements' own examples (awake), out of what the functions of expand hand back. Written by tools/mkExAw.py.
-/
import Derived.Test.YtapaoemcjpfpoaaExK
import Derived.Test.YtapaoemcjpfpoaaSpSr
namespace Go.Proofs.Ytapaoemcjpfpoaa
open Go.RowKit
set_option linter.unusedVariables false
set_option linter.unusedSimpArgs false

theorem ex_back : canonOf (memT [(4, 15), (2, 15), (16, 16)]) = [(2, 5), (16, 16)] := by
  refine (eq_canonOf (by simp [Canon]) fun i hi => ?_).symm
  rw [Bool.eq_iff_iff]
  simp [memB_cons, memB_nil, hasB_iff, memT_cons, memT_nil, topT]
  omega
theorem ex_least : tl (memT [(2, 15), (0, 15), (3, 16)]) 16 0 = [(0, 14)] := by
  rw [tl_canon (l := [(0, 3)]) (by simp [Canon]) fun i _ => by
    rw [Bool.eq_iff_iff]
    simp [memB_cons, memB_nil, hasB_iff, memT_cons, memT_nil, topT]
    omega]
  decide +kernel
theorem bdT_b : BdT [(4, 15), (2, 15), (16, 16)] := by intro s hs; simp at hs; rcases hs with rfl | rfl | rfl <;> decide
theorem bdT_l : BdT [(2, 15), (0, 15), (3, 16)] := by intro s hs; simp at hs; rcases hs with rfl | rfl | rfl <;> decide
theorem of_ex (h : OfC) (w : World) : Calls Try.prog 18 #[.agg #[.int .u16 1, .int .u16 6]] w fun e w' => ∃ v' : Value, e = .returned (.tuple #[v', .int .i64 0]) ∧ RowT w' w.heap.size v' [(1, 16), (2, 15), (4, 15), (6, 16)] ∧ Below w.heap.size w w' := by
  rw [← ex_of]; exact h 1 6 w (by decide) (by decide)
theorem cnt_ex (h : CntC) (w : World) : Calls Try.prog 17 #[.agg #[.int .u16 1, .int .u16 65534]] w fun e w' => e = .returned (.tuple #[.int .i64 30, .int .i64 0]) ∧ Below w.heap.size w w' := by
  have := h 1 65534 w (by decide) (by decide)
  rw [ex_cnt] at this; exact this
theorem back_ex (h : BackC) (v : Value) (w : World) (hs : SrcT w v [(4, 15), (2, 15), (16, 16)]) : Calls Try.prog 23 #[v] w fun e w' => ∃ v' : Value, e = .returned (.tuple #[v', .int .i64 0]) ∧ Row w' w.heap.size v' [(2, 5), (16, 16)] ∧ Below w.heap.size w w' := by
  rw [← ex_back]; exact h _ v w hs (by decide) bdT_b (by decide)
theorem least_ex (h : LstC) (v : Value) (w : World) (hs : SrcT w v [(2, 15), (0, 15), (3, 16)]) : Calls Try.prog 27 #[v] w fun e w' => ∃ v' : Value, e = .returned (.tuple #[v', .int .i64 0]) ∧ RowT w' w.heap.size v' [(0, 14)] ∧ Below w.heap.size w w' := by
  rw [← ex_least]; exact h _ v w hs (by decide) bdT_l (by decide)
theorem span_ex (h : SpnC) (w : World) : Calls Try.prog 9 #[.agg #[.int .u16 1024, .int .i64 6]] w fun e w' => e = .returned (.tuple #[.agg #[.int .u16 1024, .int .u16 2047], .int .i64 0]) ∧ Below w.heap.size w w' := h 1024 6 w (by decide) (by decide)
theorem chk_ex (h : ChkC) (w : World) : Calls Try.prog 12 #[.agg #[.int .u16 32768, .int .i64 0]] w fun e w' => e = .returned (.int .i64 50) ∧ Below w.heap.size w w' := h 32768 0 w (by decide)
theorem stemL (b n : Nat) (w : World) : Calls Try.prog 34 #[.int .u16 b, .int .i64 n] w fun e w' => e = .returned (.agg #[.int .u16 (b : Nat), .int .i64 (n : Nat)]) ∧ Below w.heap.size w w' := stemT b n w
set_option maxHeartbeats 4000000 in
theorem awakeC (hOf : OfC) (hCnt : CntC) (hBack : BackC) (hLst : LstC) (hSpn : SpnC) (hChk : ChkC) (w : World) : Calls Try.prog 11 #[] w fun e w' => e = .returned (.bool true) ∧ Below w.heap.size w w' := by
  have c1 := of_ex hOf
  have c2 := fun v W h => back_ex hBack v W h
  have c3 := fun v W h => least_ex hLst v W h
  have c4 := span_ex hSpn
  have c5 := cnt_ex hCnt
  have c6 := chk_ex hChk
  clear hOf hCnt hBack hLst hSpn hChk
  go_enter Try.func11, Try.ntmps11
  go_wp2_with (fail)
  refine (c1 _).mono ?_
  rintro e w1 ⟨vTA, rfl, rTA, hb1⟩
  have hz1 := hb1.size
  (try simp at hz1)
  have TA_1 : Hid (RowT w1 w.heap.size vTA ([(1, 16), (2, 15), (4, 15), (6, 16)])) := rTA.base (by first | omega | (simp; done) | (simp; omega))
  clear rTA
  have hl1 : w.heap.size ≤ w1.heap.size := by omega
  have hw1 : Hid (Below w.heap.size w w1) := (Below.refl _ _).trans (hb1.mono (by first | omega | (simp; done) | (simp; omega)))
  clear hb1
  go_wp2_with (fail)
  refine (stemT 4 15 _).mono ?_
  rintro e w2 ⟨rfl, hb2⟩
  have hz2 := hb2.size
  (try simp at hz2)
  have TA_2 : Hid (RowT w2 w.heap.size vTA ([(1, 16), (2, 15), (4, 15), (6, 16)])) := RowT.on TA_1.out hb2
  have hl2 : w.heap.size ≤ w2.heap.size := by omega
  have hw2 : Hid (Below w.heap.size w w2) := hw1.out.trans (hb2.mono (by first | omega | (simp; done) | (simp; omega)))
  clear hb2 TA_1 hw1
  go_wp2_with (fail)
  refine (stemT 2 15 _).mono ?_
  rintro e w3 ⟨rfl, hb3⟩
  have hz3 := hb3.size
  (try simp at hz3)
  have TA_3 : Hid (RowT w3 w.heap.size vTA ([(1, 16), (2, 15), (4, 15), (6, 16)])) := RowT.on TA_2.out hb3
  have hl3 : w.heap.size ≤ w3.heap.size := by omega
  have hw3 : Hid (Below w.heap.size w w3) := hw2.out.trans (hb3.mono (by first | omega | (simp; done) | (simp; omega)))
  clear hb3 TA_2 hw2
  go_wp2_with (fail)
  refine (stemT 16 16 _).mono ?_
  rintro e w4 ⟨rfl, hb4⟩
  have hz4 := hb4.size
  (try simp at hz4)
  have TA_4 : Hid (RowT w4 w.heap.size vTA ([(1, 16), (2, 15), (4, 15), (6, 16)])) := RowT.on TA_3.out hb4
  have hl4 : w.heap.size ≤ w4.heap.size := by omega
  have hw4 : Hid (Below w.heap.size w w4) := hw3.out.trans (hb4.mono (by first | omega | (simp; done) | (simp; omega)))
  clear hb4 TA_3 hw3
  go_wp2_with (fail)
  refine (c2 _ _ (srcT_of_cells (heap_alloc_new _ _) rfl rfl)).mono ?_
  rintro e w5 ⟨vB, rfl, rB, hb5⟩
  have hz5 := hb5.size
  (try simp at hz5)
  have B_5 : Hid (Row w5 w.heap.size vB ([(2, 5), (16, 16)])) := rB.base (by first | omega | (simp; done) | (simp; omega))
  clear rB
  have TA_5 : Hid (RowT w5 w.heap.size vTA ([(1, 16), (2, 15), (4, 15), (6, 16)])) := RowT.on (RowT.alloc TA_4.out _) hb5
  have hl5 : w.heap.size ≤ w5.heap.size := by omega
  have hw5 : Hid (Below w.heap.size w w5) := (hw4.out.alloc (by first | omega | (simp; done) | (simp; omega)) _).trans (hb5.mono (by first | omega | (simp; done) | (simp; omega)))
  clear hb5 TA_4 hw4
  go_wp2_with (fail)
  refine (stemT 2 15 _).mono ?_
  rintro e w6 ⟨rfl, hb6⟩
  have hz6 := hb6.size
  (try simp at hz6)
  have TA_6 : Hid (RowT w6 w.heap.size vTA ([(1, 16), (2, 15), (4, 15), (6, 16)])) := RowT.on TA_5.out hb6
  have B_6 : Hid (Row w6 w.heap.size vB ([(2, 5), (16, 16)])) := Row.on B_5.out hb6
  have hl6 : w.heap.size ≤ w6.heap.size := by omega
  have hw6 : Hid (Below w.heap.size w w6) := hw5.out.trans (hb6.mono (by first | omega | (simp; done) | (simp; omega)))
  clear hb6 TA_5 B_5 hw5
  go_wp2_with (fail)
  refine (stemT 0 15 _).mono ?_
  rintro e w7 ⟨rfl, hb7⟩
  have hz7 := hb7.size
  (try simp at hz7)
  have TA_7 : Hid (RowT w7 w.heap.size vTA ([(1, 16), (2, 15), (4, 15), (6, 16)])) := RowT.on TA_6.out hb7
  have B_7 : Hid (Row w7 w.heap.size vB ([(2, 5), (16, 16)])) := Row.on B_6.out hb7
  have hl7 : w.heap.size ≤ w7.heap.size := by omega
  have hw7 : Hid (Below w.heap.size w w7) := hw6.out.trans (hb7.mono (by first | omega | (simp; done) | (simp; omega)))
  clear hb7 TA_6 B_6 hw6
  go_wp2_with (fail)
  refine (stemT 3 16 _).mono ?_
  rintro e w8 ⟨rfl, hb8⟩
  have hz8 := hb8.size
  (try simp at hz8)
  have TA_8 : Hid (RowT w8 w.heap.size vTA ([(1, 16), (2, 15), (4, 15), (6, 16)])) := RowT.on TA_7.out hb8
  have B_8 : Hid (Row w8 w.heap.size vB ([(2, 5), (16, 16)])) := Row.on B_7.out hb8
  have hl8 : w.heap.size ≤ w8.heap.size := by omega
  have hw8 : Hid (Below w.heap.size w w8) := hw7.out.trans (hb8.mono (by first | omega | (simp; done) | (simp; omega)))
  clear hb8 TA_7 B_7 hw7
  go_wp2_with (fail)
  refine (c3 _ _ (srcT_of_cells (heap_alloc_new _ _) rfl rfl)).mono ?_
  rintro e w9 ⟨vTC, rfl, rTC, hb9⟩
  have hz9 := hb9.size
  (try simp at hz9)
  have TC_9 : Hid (RowT w9 w.heap.size vTC ([(0, 14)])) := rTC.base (by first | omega | (simp; done) | (simp; omega))
  clear rTC
  have TA_9 : Hid (RowT w9 w.heap.size vTA ([(1, 16), (2, 15), (4, 15), (6, 16)])) := RowT.on (RowT.alloc TA_8.out _) hb9
  have B_9 : Hid (Row w9 w.heap.size vB ([(2, 5), (16, 16)])) := Row.on (Row.alloc B_8.out _) hb9
  have hl9 : w.heap.size ≤ w9.heap.size := by omega
  have hw9 : Hid (Below w.heap.size w w9) := (hw8.out.alloc (by first | omega | (simp; done) | (simp; omega)) _).trans (hb9.mono (by first | omega | (simp; done) | (simp; omega)))
  clear hb9 TA_8 B_8 hw8
  go_wp2_with (fail)
  refine (stemT 1024 6 _).mono ?_
  rintro e w10 ⟨rfl, hb10⟩
  have hz10 := hb10.size
  (try simp at hz10)
  have TA_10 : Hid (RowT w10 w.heap.size vTA ([(1, 16), (2, 15), (4, 15), (6, 16)])) := RowT.on TA_9.out hb10
  have B_10 : Hid (Row w10 w.heap.size vB ([(2, 5), (16, 16)])) := Row.on B_9.out hb10
  have TC_10 : Hid (RowT w10 w.heap.size vTC ([(0, 14)])) := RowT.on TC_9.out hb10
  have hl10 : w.heap.size ≤ w10.heap.size := by omega
  have hw10 : Hid (Below w.heap.size w w10) := hw9.out.trans (hb10.mono (by first | omega | (simp; done) | (simp; omega)))
  clear hb10 TA_9 B_9 TC_9 hw9
  go_wp2_with (fail)
  refine (c4 _).mono ?_
  rintro e w11 ⟨rfl, hb11⟩
  have hz11 := hb11.size
  (try simp at hz11)
  have TA_11 : Hid (RowT w11 w.heap.size vTA ([(1, 16), (2, 15), (4, 15), (6, 16)])) := RowT.on TA_10.out hb11
  have B_11 : Hid (Row w11 w.heap.size vB ([(2, 5), (16, 16)])) := Row.on B_10.out hb11
  have TC_11 : Hid (RowT w11 w.heap.size vTC ([(0, 14)])) := RowT.on TC_10.out hb11
  have hl11 : w.heap.size ≤ w11.heap.size := by omega
  have hw11 : Hid (Below w.heap.size w w11) := hw10.out.trans (hb11.mono (by first | omega | (simp; done) | (simp; omega)))
  clear hb11 TA_10 B_10 TC_10 hw10
  go_wp2_with (fail)
  refine (c5 _).mono ?_
  rintro e w12 ⟨rfl, hb12⟩
  have hz12 := hb12.size
  (try simp at hz12)
  have TA_12 : Hid (RowT w12 w.heap.size vTA ([(1, 16), (2, 15), (4, 15), (6, 16)])) := RowT.on (RowT.alloc TA_11.out _) hb12
  have B_12 : Hid (Row w12 w.heap.size vB ([(2, 5), (16, 16)])) := Row.on (Row.alloc B_11.out _) hb12
  have TC_12 : Hid (RowT w12 w.heap.size vTC ([(0, 14)])) := RowT.on (RowT.alloc TC_11.out _) hb12
  have m0_12 : w12.cell? ⟨w11.heap.size, 0, none⟩ = some (.int .u16 1024) := cell_on hb12 (show (w11.alloc (.cells #[.int .u16 1024, .int .u16 2047] 26)).cell? ⟨w11.heap.size, 0, none⟩ = some (.int .u16 1024) from by simp [go_sem])
  have m1_12 : w12.cell? ⟨w11.heap.size, 1, none⟩ = some (.int .u16 2047) := cell_on hb12 (show (w11.alloc (.cells #[.int .u16 1024, .int .u16 2047] 26)).cell? ⟨w11.heap.size, 1, none⟩ = some (.int .u16 2047) from by simp [go_sem])
  have hg12_0 : w11.heap.size < w12.heap.size := by omega
  have hl12 : w.heap.size ≤ w12.heap.size := by omega
  have hw12 : Hid (Below w.heap.size w w12) := (hw11.out.alloc (by first | omega | (simp; done) | (simp; omega)) _).trans (hb12.mono (by first | omega | (simp; done) | (simp; omega)))
  clear hb12 TA_11 B_11 TC_11 hw11
  go_wp2_with (fail)
  refine (stemT 1 16 _).mono ?_
  rintro e w13 ⟨rfl, hb13⟩
  have hz13 := hb13.size
  (try simp at hz13)
  have TA_13 : Hid (RowT w13 w.heap.size vTA ([(1, 16), (2, 15), (4, 15), (6, 16)])) := RowT.on TA_12.out hb13
  have B_13 : Hid (Row w13 w.heap.size vB ([(2, 5), (16, 16)])) := Row.on B_12.out hb13
  have TC_13 : Hid (RowT w13 w.heap.size vTC ([(0, 14)])) := RowT.on TC_12.out hb13
  have m0_13 : w13.cell? ⟨w11.heap.size, 0, none⟩ = some (.int .u16 1024) := cell_on hb13 m0_12
  have m1_13 : w13.cell? ⟨w11.heap.size, 1, none⟩ = some (.int .u16 2047) := cell_on hb13 m1_12
  have hg13_0 : w11.heap.size < w13.heap.size := by omega
  have hl13 : w.heap.size ≤ w13.heap.size := by omega
  have hw13 : Hid (Below w.heap.size w w13) := hw12.out.trans (hb13.mono (by first | omega | (simp; done) | (simp; omega)))
  clear hb13 TA_12 B_12 TC_12 m0_12 m1_12 hg12_0 hw12
  go_wp2_with (fail)
  refine (stemT 2 15 _).mono ?_
  rintro e w14 ⟨rfl, hb14⟩
  have hz14 := hb14.size
  (try simp at hz14)
  have TA_14 : Hid (RowT w14 w.heap.size vTA ([(1, 16), (2, 15), (4, 15), (6, 16)])) := RowT.on TA_13.out hb14
  have B_14 : Hid (Row w14 w.heap.size vB ([(2, 5), (16, 16)])) := Row.on B_13.out hb14
  have TC_14 : Hid (RowT w14 w.heap.size vTC ([(0, 14)])) := RowT.on TC_13.out hb14
  have m0_14 : w14.cell? ⟨w11.heap.size, 0, none⟩ = some (.int .u16 1024) := cell_on hb14 m0_13
  have m1_14 : w14.cell? ⟨w11.heap.size, 1, none⟩ = some (.int .u16 2047) := cell_on hb14 m1_13
  have hg14_0 : w11.heap.size < w14.heap.size := by omega
  have hl14 : w.heap.size ≤ w14.heap.size := by omega
  have hw14 : Hid (Below w.heap.size w w14) := hw13.out.trans (hb14.mono (by first | omega | (simp; done) | (simp; omega)))
  clear hb14 TA_13 B_13 TC_13 m0_13 m1_13 hg13_0 hw13
  go_wp2_with (fail)
  refine (stemT 4 15 _).mono ?_
  rintro e w15 ⟨rfl, hb15⟩
  have hz15 := hb15.size
  (try simp at hz15)
  have TA_15 : Hid (RowT w15 w.heap.size vTA ([(1, 16), (2, 15), (4, 15), (6, 16)])) := RowT.on TA_14.out hb15
  have B_15 : Hid (Row w15 w.heap.size vB ([(2, 5), (16, 16)])) := Row.on B_14.out hb15
  have TC_15 : Hid (RowT w15 w.heap.size vTC ([(0, 14)])) := RowT.on TC_14.out hb15
  have m0_15 : w15.cell? ⟨w11.heap.size, 0, none⟩ = some (.int .u16 1024) := cell_on hb15 m0_14
  have m1_15 : w15.cell? ⟨w11.heap.size, 1, none⟩ = some (.int .u16 2047) := cell_on hb15 m1_14
  have hg15_0 : w11.heap.size < w15.heap.size := by omega
  have hl15 : w.heap.size ≤ w15.heap.size := by omega
  have hw15 : Hid (Below w.heap.size w w15) := hw14.out.trans (hb15.mono (by first | omega | (simp; done) | (simp; omega)))
  clear hb15 TA_14 B_14 TC_14 m0_14 m1_14 hg14_0 hw14
  go_wp2_with (fail)
  refine (stemT 6 16 _).mono ?_
  rintro e w16 ⟨rfl, hb16⟩
  have hz16 := hb16.size
  (try simp at hz16)
  have TA_16 : Hid (RowT w16 w.heap.size vTA ([(1, 16), (2, 15), (4, 15), (6, 16)])) := RowT.on TA_15.out hb16
  have B_16 : Hid (Row w16 w.heap.size vB ([(2, 5), (16, 16)])) := Row.on B_15.out hb16
  have TC_16 : Hid (RowT w16 w.heap.size vTC ([(0, 14)])) := RowT.on TC_15.out hb16
  have m0_16 : w16.cell? ⟨w11.heap.size, 0, none⟩ = some (.int .u16 1024) := cell_on hb16 m0_15
  have m1_16 : w16.cell? ⟨w11.heap.size, 1, none⟩ = some (.int .u16 2047) := cell_on hb16 m1_15
  have hg16_0 : w11.heap.size < w16.heap.size := by omega
  have hl16 : w.heap.size ≤ w16.heap.size := by omega
  have hw16 : Hid (Below w.heap.size w w16) := hw15.out.trans (hb16.mono (by first | omega | (simp; done) | (simp; omega)))
  clear hb16 TA_15 B_15 TC_15 m0_15 m1_15 hg15_0 hw15
  go_wp2_with (fail)
  refine (sameT [(1, 16), (2, 15), (4, 15), (6, 16)] (by decide) _ _ _ (RowT.src (RowT.alloc TA_16.out _)) (srcT_of_cells (heap_alloc_new _ _) rfl rfl)).mono ?_
  rintro e w17 ⟨rfl, hb17⟩
  have hz17 := hb17.size
  (try simp at hz17)
  have TA_17 : Hid (RowT w17 w.heap.size vTA ([(1, 16), (2, 15), (4, 15), (6, 16)])) := RowT.on (RowT.alloc TA_16.out _) hb17
  have B_17 : Hid (Row w17 w.heap.size vB ([(2, 5), (16, 16)])) := Row.on (Row.alloc B_16.out _) hb17
  have TC_17 : Hid (RowT w17 w.heap.size vTC ([(0, 14)])) := RowT.on (RowT.alloc TC_16.out _) hb17
  have m0_17 : w17.cell? ⟨w11.heap.size, 0, none⟩ = some (.int .u16 1024) := cell_on hb17 (cell_alloc m0_16)
  have m1_17 : w17.cell? ⟨w11.heap.size, 1, none⟩ = some (.int .u16 2047) := cell_on hb17 (cell_alloc m1_16)
  have hg17_0 : w11.heap.size < w17.heap.size := by omega
  have hl17 : w.heap.size ≤ w17.heap.size := by omega
  have hw17 : Hid (Below w.heap.size w w17) := (hw16.out.alloc (by first | omega | (simp; done) | (simp; omega)) _).trans (hb17.mono (by first | omega | (simp; done) | (simp; omega)))
  clear hb17 TA_16 B_16 TC_16 m0_16 m1_16 hg16_0 hw16
  go_wp2_with (fail)
  refine (stemT 0 14 _).mono ?_
  rintro e w18 ⟨rfl, hb18⟩
  have hz18 := hb18.size
  (try simp at hz18)
  have B_18 : Hid (Row w18 w.heap.size vB ([(2, 5), (16, 16)])) := Row.on B_17.out hb18
  have TC_18 : Hid (RowT w18 w.heap.size vTC ([(0, 14)])) := RowT.on TC_17.out hb18
  have m0_18 : w18.cell? ⟨w11.heap.size, 0, none⟩ = some (.int .u16 1024) := cell_on hb18 m0_17
  have m1_18 : w18.cell? ⟨w11.heap.size, 1, none⟩ = some (.int .u16 2047) := cell_on hb18 m1_17
  have hg18_0 : w11.heap.size < w18.heap.size := by omega
  have hl18 : w.heap.size ≤ w18.heap.size := by omega
  have hw18 : Hid (Below w.heap.size w w18) := hw17.out.trans (hb18.mono (by first | omega | (simp; done) | (simp; omega)))
  clear hb18 B_17 TC_17 m0_17 m1_17 hg17_0 hw17
  go_wp2_with (fail)
  refine (sameT [(0, 14)] (by decide) _ _ _ (RowT.src (RowT.alloc TC_18.out _)) (srcT_of_cells (heap_alloc_new _ _) rfl rfl)).mono ?_
  rintro e w19 ⟨rfl, hb19⟩
  have hz19 := hb19.size
  (try simp at hz19)
  have B_19 : Hid (Row w19 w.heap.size vB ([(2, 5), (16, 16)])) := Row.on (Row.alloc B_18.out _) hb19
  have TC_19 : Hid (RowT w19 w.heap.size vTC ([(0, 14)])) := RowT.on (RowT.alloc TC_18.out _) hb19
  have m0_19 : w19.cell? ⟨w11.heap.size, 0, none⟩ = some (.int .u16 1024) := cell_on hb19 (cell_alloc m0_18)
  have m1_19 : w19.cell? ⟨w11.heap.size, 1, none⟩ = some (.int .u16 2047) := cell_on hb19 (cell_alloc m1_18)
  have hg19_0 : w11.heap.size < w19.heap.size := by omega
  have hl19 : w.heap.size ≤ w19.heap.size := by omega
  have hw19 : Hid (Below w.heap.size w w19) := (hw18.out.alloc (by first | omega | (simp; done) | (simp; omega)) _).trans (hb19.mono (by first | omega | (simp; done) | (simp; omega)))
  clear hb19 B_18 TC_18 m0_18 m1_18 hg18_0 hw18
  go_wp2_with (fail)
  refine (sameX [(2, 5), (16, 16)] (by decide) _ _ _ (Row.src (Row.alloc B_19.out _)) (src_of_cells (heap_alloc_new _ _) rfl rfl)).mono ?_
  rintro e w20 ⟨rfl, hb20⟩
  have hz20 := hb20.size
  (try simp at hz20)
  have B_20 : Hid (Row w20 w.heap.size vB ([(2, 5), (16, 16)])) := Row.on (Row.alloc B_19.out _) hb20
  have m0_20 : w20.cell? ⟨w11.heap.size, 0, none⟩ = some (.int .u16 1024) := cell_on hb20 (cell_alloc m0_19)
  have m1_20 : w20.cell? ⟨w11.heap.size, 1, none⟩ = some (.int .u16 2047) := cell_on hb20 (cell_alloc m1_19)
  have hg20_0 : w11.heap.size < w20.heap.size := by omega
  have hl20 : w.heap.size ≤ w20.heap.size := by omega
  have hw20 : Hid (Below w.heap.size w w20) := (hw19.out.alloc (by first | omega | (simp; done) | (simp; omega)) _).trans (hb20.mono (by first | omega | (simp; done) | (simp; omega)))
  clear hb20 B_19 m0_19 m1_19 hg19_0 hw19
  go_wp2_with (fail)
  refine (stemT 32768 0 _).mono ?_
  rintro e w21 ⟨rfl, hb21⟩
  have hz21 := hb21.size
  (try simp at hz21)
  have m0_21 : w21.cell? ⟨w11.heap.size, 0, none⟩ = some (.int .u16 1024) := cell_on hb21 m0_20
  have m1_21 : w21.cell? ⟨w11.heap.size, 1, none⟩ = some (.int .u16 2047) := cell_on hb21 m1_20
  have hg21_0 : w11.heap.size < w21.heap.size := by omega
  have hl21 : w.heap.size ≤ w21.heap.size := by omega
  have hw21 : Hid (Below w.heap.size w w21) := hw20.out.trans (hb21.mono (by first | omega | (simp; done) | (simp; omega)))
  clear hb21 m0_20 m1_20 hg20_0 hw20
  go_wp2_with (fail)
  refine (c6 _).mono ?_
  rintro e w22 ⟨rfl, hb22⟩
  have hz22 := hb22.size
  (try simp at hz22)
  have m0_22 : w22.cell? ⟨w11.heap.size, 0, none⟩ = some (.int .u16 1024) := cell_on hb22 m0_21
  have m1_22 : w22.cell? ⟨w11.heap.size, 1, none⟩ = some (.int .u16 2047) := cell_on hb22 m1_21
  have hg22_0 : w11.heap.size < w22.heap.size := by omega
  have hl22 : w.heap.size ≤ w22.heap.size := by omega
  have hw22 : Hid (Below w.heap.size w w22) := hw21.out.trans (hb22.mono (by first | omega | (simp; done) | (simp; omega)))
  clear hb22 m0_21 m1_21 hg21_0 hw21
  go_wp2
  go_ret
  exact ⟨rfl, hw22.out⟩
end Go.Proofs.Ytapaoemcjpfpoaa
