/-
  What the document's Same hands back of two lists that are the same; the statements' own examples (awake).
-/
import Derived.Test.YthmekipdhlipbabSpLe
namespace Go.Proofs.Ythmekipdhlipbab
open Go.RowKit
set_option linter.unusedVariables false
set_option linter.unusedSimpArgs false

set_option maxHeartbeats 1000000 in
theorem sameS (l : List (Nat × Nat)) (hl : l.length ≤ 4294967296) (v u : Value) (w : World) (h1 : Src w v l) (h2 : Src w u l) :
    Calls Try.prog 10 #[v, u] w fun e w' => e = .returned (.bool true) ∧ Below w.heap.size w w' := by
  obtain ⟨a1, cap1, rfl, f1⟩ := h1.at
  obtain ⟨a2, cap2, rfl, f2⟩ := h2.at
  clear h1 h2
  go_enter Try.func10, Try.ntmps10
  go_wp2
  go_loopw [5] (fun i wr => ∃ k d : Nat, k ≤ l.length ∧ i = .int .i64 k ∧ wr = w.drewN d) (fun i _ => l.length - (intOf i).toNat)
  case atStart => exact ⟨0, 0, Nat.zero_le _, rfl, rfl⟩
  case round =>
    obtain ⟨k, d, hk, rfl, rfl⟩ := hrel
    by_cases hlt : k < l.length
    · obtain ⟨g1, o1, rfl, c1⟩ := f1 (by omega)
      obtain ⟨g2, o2, rfl, c2⟩ := f2 (by omega)
      obtain ⟨p, hp⟩ : ∃ p, p = l[k] := ⟨_, rfl⟩
      obtain ⟨x1, y1⟩ := c1 k hlt
      obtain ⟨x2, y2⟩ := c2 k hlt
      rw [← hp] at x1 y1 x2 y2
      clear c1 c2 f1 f2 hp
      have hlt' : (k : Int) < (l.length : Int) := by omega
      have hk0 : (0 : Int) ≤ (k : Int) := by omega
      go_wp2
      go_quiet (fail)
      go_wp2
      go_roundw
      case rel => exact ⟨k + 1, _, by omega, by go_num, rfl⟩
      case measure => simp [intOf]; omega
    · go_wp2
      go_ret
      exact ⟨rfl, by (repeat (first | assumption | exact Below.refl _ _ | refine Below.drew ?_ | refine bel_drewN ?_ _ | refine Below.setCell ?_ (by first | omega | (simp; done) | (simp; omega)) _ | refine Below.alloc ?_ (by first | omega | (simp; done) | (simp; omega)) _ | refine bel_of ?_ (by assumption)))⟩
/-- A list that is written out, in memory. -/
theorem src_of_cells {w : World} {g : Nat} {cur : Array Value} {l : List (Nat × Nat)} {n cap : Nat} (hg : w.heap[g]? = some (.cells cur 31 (0, 0))) (hc : cur.toList = flat l) (hn : n = l.length) : Src w (.slice (some ⟨g, 0, none⟩) n cap) l := by
  subst hn
  refine ⟨_, cap, rfl, fun _ => ⟨g, 0, rfl, fun j u hu => ?_⟩⟩
  rw [cell_of_row w g (0 + j) cur _ (0, 0) hg, Nat.zero_add, ← Array.getElem?_toList, hc]
  exact hu
theorem ex_less : canonOf (lessB (0, 9) (3, 4)) = [(0, 2), (5, 9)] := by
  refine (eq_canonOf (by simp [Canon]) fun i hi => ?_).symm
  unfold lessB
  rw [Bool.eq_iff_iff, Bool.and_eq_true, hasB_iff, Bool.not_eq_true', ← Bool.not_eq_true, hasB_iff]
  simp [memB_cons, memB_nil, hasB_iff]
  omega
theorem ex_union : canonOf (memB [(5, 9), (0, 4), (11, 12)]) = [(0, 9), (11, 12)] := by
  refine (eq_canonOf (by simp [Canon]) fun i hi => ?_).symm
  rw [Bool.eq_iff_iff]
  simp [memB_cons, memB_nil, hasB_iff]
  omega
theorem ex_gaps : (canonOf fun i => !memB [(5, 9), (11, 65535)] i) = [(0, 4), (10, 10)] := by
  refine (eq_canonOf (by simp [Canon]) fun i hi => ?_).symm
  rw [Bool.eq_iff_iff, Bool.not_eq_true', ← Bool.not_eq_true]
  simp [memB_cons, memB_nil, hasB_iff]
  omega
theorem bd_3 : Bd [(5, 9), (0, 4), (11, 12)] := by intro s hs; simp at hs; rcases hs with rfl | rfl | rfl <;> exact ⟨by decide, by decide⟩
theorem bd_2 : Bd [(5, 9), (11, 65535)] := by intro s hs; simp at hs; rcases hs with rfl | rfl <;> exact ⟨by decide, by decide⟩
theorem meet_ex (w : World) : Calls Try.prog 17 #[.agg #[.int .u16 0, .int .u16 9], .agg #[.int .u16 5, .int .u16 20]] w fun e w' => e = .returned (.tuple #[.agg #[.int .u16 5, .int .u16 9], .bool true]) ∧ Below w.heap.size w w' := meet_yes 0 9 5 20 w (by decide)
theorem cmp_ex (w : World) : Calls Try.prog 15 #[.agg #[.int .u16 1, .int .u16 2], .agg #[.int .u16 1, .int .u16 3]] w fun e w' => e = .returned (.int .i64 (-1)) ∧ Below w.heap.size w w' := cmpB (1, 2) (1, 3) w
theorem chk_ex (w : World) : Calls Try.prog 24 #[.agg #[.int .u16 2, .int .u16 1]] w fun e w' => e = .returned (.int .i64 30) ∧ Below w.heap.size w w' := checkS 2 1 w
theorem cnt_ex (w : World) : Calls Try.prog 18 #[.agg #[.int .u16 0, .int .u16 65535]] w fun e w' => e = .returned (.int .i64 65536) ∧ Below w.heap.size w w' := countS 0 65535 w (by decide) (by decide)
theorem wi_ex (w : World) : Calls Try.prog 25 #[.agg #[.int .u16 5, .int .u16 6], .agg #[.int .u16 0, .int .u16 9]] w fun e w' => e = .returned (.bool true) ∧ Below w.heap.size w w' := withinS 5 6 0 9 w
theorem less_ex (w : World) : Calls Try.prog 16 #[.agg #[.int .u16 0, .int .u16 9], .agg #[.int .u16 3, .int .u16 4]] w fun e w' => ∃ v' : Value, e = .returned v' ∧ Row w' w.heap.size v' [(0, 2), (5, 9)] ∧ Below w.heap.size w w' := by
  rw [← ex_less]; exact lessS 0 9 3 4 w (by decide) (by decide)
theorem union_ex (v : Value) (w : World) (h : Src w v [(5, 9), (0, 4), (11, 12)]) : Calls Try.prog 20 #[v] w fun e w' => ∃ v' : Value, e = .returned v' ∧ Row w' w.heap.size v' [(0, 9), (11, 12)] ∧ Below w.heap.size w w' := by
  rw [← ex_union]; exact unionS _ v w h (by decide) bd_3
theorem gaps_ex (v : Value) (w : World) (h : Src w v [(5, 9), (11, 65535)]) : Calls Try.prog 9 #[v] w fun e w' => ∃ v' : Value, e = .returned v' ∧ Row w' w.heap.size v' [(0, 4), (10, 10)] ∧ Below w.heap.size w w' := by
  rw [← ex_gaps]; exact gapsS _ v w h (by decide) bd_2
set_option maxHeartbeats 2000000 in
theorem awakeS (w : World) : Calls Try.prog 13 #[] w fun e w' => e = .returned (.bool true) ∧ Below w.heap.size w w' := by
  go_enter Try.func13, Try.ntmps13
  go_wp2_with (fail)
  refine (ofS 0 9 _).mono ?_
  rintro e w1 ⟨rfl, hb1⟩
  have hz1 := hb1.size
  (try simp at hz1)
  have hl1 : w.heap.size ≤ w1.heap.size := by omega
  have hw1 : Hid (Below w.heap.size w w1) := (Below.refl _ _).trans (hb1.mono (by first | omega | (simp; done) | (simp; omega)))
  clear hb1
  go_wp2_with (fail)
  refine (ofS 5 20 _).mono ?_
  rintro e w2 ⟨rfl, hb2⟩
  have hz2 := hb2.size
  (try simp at hz2)
  have hl2 : w.heap.size ≤ w2.heap.size := by omega
  have hw2 : Hid (Below w.heap.size w w2) := hw1.out.trans (hb2.mono (by first | omega | (simp; done) | (simp; omega)))
  clear hb2 hw1
  go_wp2_with (fail)
  refine (meet_ex _).mono ?_
  rintro e w3 ⟨rfl, hb3⟩
  have hz3 := hb3.size
  (try simp at hz3)
  have hl3 : w.heap.size ≤ w3.heap.size := by omega
  have hw3 : Hid (Below w.heap.size w w3) := hw2.out.trans (hb3.mono (by first | omega | (simp; done) | (simp; omega)))
  clear hb3 hw2
  go_wp2_with (fail)
  refine (ofS 0 9 _).mono ?_
  rintro e w4 ⟨rfl, hb4⟩
  have hz4 := hb4.size
  (try simp at hz4)
  have m0_4 : w4.cell? ⟨w3.heap.size, 0, none⟩ = some (.int .u16 5) := cell_on hb4 (show (w3.alloc (.cells #[.int .u16 5, .int .u16 9] 31)).cell? ⟨w3.heap.size, 0, none⟩ = some (.int .u16 5) from by simp [go_sem])
  have m1_4 : w4.cell? ⟨w3.heap.size, 1, none⟩ = some (.int .u16 9) := cell_on hb4 (show (w3.alloc (.cells #[.int .u16 5, .int .u16 9] 31)).cell? ⟨w3.heap.size, 1, none⟩ = some (.int .u16 9) from by simp [go_sem])
  have hl4 : w.heap.size ≤ w4.heap.size := by omega
  have hw4 : Hid (Below w.heap.size w w4) := (hw3.out.alloc (by first | omega | (simp; done) | (simp; omega)) _).trans (hb4.mono (by first | omega | (simp; done) | (simp; omega)))
  clear hb4 hw3
  go_wp2_with (fail)
  refine (ofS 3 4 _).mono ?_
  rintro e w5 ⟨rfl, hb5⟩
  have hz5 := hb5.size
  (try simp at hz5)
  have m0_5 : w5.cell? ⟨w3.heap.size, 0, none⟩ = some (.int .u16 5) := cell_on hb5 m0_4
  have m1_5 : w5.cell? ⟨w3.heap.size, 1, none⟩ = some (.int .u16 9) := cell_on hb5 m1_4
  have hl5 : w.heap.size ≤ w5.heap.size := by omega
  have hw5 : Hid (Below w.heap.size w w5) := hw4.out.trans (hb5.mono (by first | omega | (simp; done) | (simp; omega)))
  clear hb5 m0_4 m1_4 hw4
  go_wp2_with (fail)
  refine (less_ex _).mono ?_
  rintro e w6 ⟨vA, rfl, rA, hb6⟩
  have hz6 := hb6.size
  (try simp at hz6)
  have A_6 : Hid (Row w6 w.heap.size vA ([(0, 2), (5, 9)])) := rA.base (by first | omega | (simp; done) | (simp; omega))
  clear rA
  have m0_6 : w6.cell? ⟨w3.heap.size, 0, none⟩ = some (.int .u16 5) := cell_on hb6 m0_5
  have m1_6 : w6.cell? ⟨w3.heap.size, 1, none⟩ = some (.int .u16 9) := cell_on hb6 m1_5
  have hl6 : w.heap.size ≤ w6.heap.size := by omega
  have hw6 : Hid (Below w.heap.size w w6) := hw5.out.trans (hb6.mono (by first | omega | (simp; done) | (simp; omega)))
  clear hb6 m0_5 m1_5 hw5
  go_wp2_with (fail)
  refine (ofS 5 9 _).mono ?_
  rintro e w7 ⟨rfl, hb7⟩
  have hz7 := hb7.size
  (try simp at hz7)
  have m0_7 : w7.cell? ⟨w3.heap.size, 0, none⟩ = some (.int .u16 5) := cell_on hb7 m0_6
  have m1_7 : w7.cell? ⟨w3.heap.size, 1, none⟩ = some (.int .u16 9) := cell_on hb7 m1_6
  have A_7 : Hid (Row w7 w.heap.size vA ([(0, 2), (5, 9)])) := Row.on A_6.out hb7
  have hl7 : w.heap.size ≤ w7.heap.size := by omega
  have hw7 : Hid (Below w.heap.size w w7) := hw6.out.trans (hb7.mono (by first | omega | (simp; done) | (simp; omega)))
  clear hb7 m0_6 m1_6 A_6 hw6
  go_wp2_with (fail)
  refine (ofS 0 4 _).mono ?_
  rintro e w8 ⟨rfl, hb8⟩
  have hz8 := hb8.size
  (try simp at hz8)
  have m0_8 : w8.cell? ⟨w3.heap.size, 0, none⟩ = some (.int .u16 5) := cell_on hb8 m0_7
  have m1_8 : w8.cell? ⟨w3.heap.size, 1, none⟩ = some (.int .u16 9) := cell_on hb8 m1_7
  have A_8 : Hid (Row w8 w.heap.size vA ([(0, 2), (5, 9)])) := Row.on A_7.out hb8
  have hl8 : w.heap.size ≤ w8.heap.size := by omega
  have hw8 : Hid (Below w.heap.size w w8) := hw7.out.trans (hb8.mono (by first | omega | (simp; done) | (simp; omega)))
  clear hb8 m0_7 m1_7 A_7 hw7
  go_wp2_with (fail)
  refine (ofS 11 12 _).mono ?_
  rintro e w9 ⟨rfl, hb9⟩
  have hz9 := hb9.size
  (try simp at hz9)
  have m0_9 : w9.cell? ⟨w3.heap.size, 0, none⟩ = some (.int .u16 5) := cell_on hb9 m0_8
  have m1_9 : w9.cell? ⟨w3.heap.size, 1, none⟩ = some (.int .u16 9) := cell_on hb9 m1_8
  have A_9 : Hid (Row w9 w.heap.size vA ([(0, 2), (5, 9)])) := Row.on A_8.out hb9
  have hl9 : w.heap.size ≤ w9.heap.size := by omega
  have hw9 : Hid (Below w.heap.size w w9) := hw8.out.trans (hb9.mono (by first | omega | (simp; done) | (simp; omega)))
  clear hb9 m0_8 m1_8 A_8 hw8
  go_wp2_with (fail)
  refine (union_ex _ _ (src_of_cells (heap_alloc_new _ _) rfl rfl)).mono ?_
  rintro e w10 ⟨vB, rfl, rB, hb10⟩
  have hz10 := hb10.size
  (try simp at hz10)
  have B_10 : Hid (Row w10 w.heap.size vB ([(0, 9), (11, 12)])) := rB.base (by first | omega | (simp; done) | (simp; omega))
  clear rB
  have m0_10 : w10.cell? ⟨w3.heap.size, 0, none⟩ = some (.int .u16 5) := cell_on hb10 (cell_alloc m0_9)
  have m1_10 : w10.cell? ⟨w3.heap.size, 1, none⟩ = some (.int .u16 9) := cell_on hb10 (cell_alloc m1_9)
  have A_10 : Hid (Row w10 w.heap.size vA ([(0, 2), (5, 9)])) := Row.on (Row.alloc A_9.out _) hb10
  have hl10 : w.heap.size ≤ w10.heap.size := by omega
  have hw10 : Hid (Below w.heap.size w w10) := (hw9.out.alloc (by first | omega | (simp; done) | (simp; omega)) _).trans (hb10.mono (by first | omega | (simp; done) | (simp; omega)))
  clear hb10 m0_9 m1_9 A_9 hw9
  go_wp2_with (fail)
  refine (ofS 5 9 _).mono ?_
  rintro e w11 ⟨rfl, hb11⟩
  have hz11 := hb11.size
  (try simp at hz11)
  have m0_11 : w11.cell? ⟨w3.heap.size, 0, none⟩ = some (.int .u16 5) := cell_on hb11 m0_10
  have m1_11 : w11.cell? ⟨w3.heap.size, 1, none⟩ = some (.int .u16 9) := cell_on hb11 m1_10
  have A_11 : Hid (Row w11 w.heap.size vA ([(0, 2), (5, 9)])) := Row.on A_10.out hb11
  have B_11 : Hid (Row w11 w.heap.size vB ([(0, 9), (11, 12)])) := Row.on B_10.out hb11
  have hl11 : w.heap.size ≤ w11.heap.size := by omega
  have hw11 : Hid (Below w.heap.size w w11) := hw10.out.trans (hb11.mono (by first | omega | (simp; done) | (simp; omega)))
  clear hb11 m0_10 m1_10 A_10 B_10 hw10
  go_wp2_with (fail)
  refine (ofS 11 65535 _).mono ?_
  rintro e w12 ⟨rfl, hb12⟩
  have hz12 := hb12.size
  (try simp at hz12)
  have m0_12 : w12.cell? ⟨w3.heap.size, 0, none⟩ = some (.int .u16 5) := cell_on hb12 m0_11
  have m1_12 : w12.cell? ⟨w3.heap.size, 1, none⟩ = some (.int .u16 9) := cell_on hb12 m1_11
  have A_12 : Hid (Row w12 w.heap.size vA ([(0, 2), (5, 9)])) := Row.on A_11.out hb12
  have B_12 : Hid (Row w12 w.heap.size vB ([(0, 9), (11, 12)])) := Row.on B_11.out hb12
  have hl12 : w.heap.size ≤ w12.heap.size := by omega
  have hw12 : Hid (Below w.heap.size w w12) := hw11.out.trans (hb12.mono (by first | omega | (simp; done) | (simp; omega)))
  clear hb12 m0_11 m1_11 A_11 B_11 hw11
  go_wp2_with (fail)
  refine (gaps_ex _ _ (src_of_cells (heap_alloc_new _ _) rfl rfl)).mono ?_
  rintro e w13 ⟨vC, rfl, rC, hb13⟩
  have hz13 := hb13.size
  (try simp at hz13)
  have C_13 : Hid (Row w13 w.heap.size vC ([(0, 4), (10, 10)])) := rC.base (by first | omega | (simp; done) | (simp; omega))
  clear rC
  have m0_13 : w13.cell? ⟨w3.heap.size, 0, none⟩ = some (.int .u16 5) := cell_on hb13 (cell_alloc m0_12)
  have m1_13 : w13.cell? ⟨w3.heap.size, 1, none⟩ = some (.int .u16 9) := cell_on hb13 (cell_alloc m1_12)
  have A_13 : Hid (Row w13 w.heap.size vA ([(0, 2), (5, 9)])) := Row.on (Row.alloc A_12.out _) hb13
  have B_13 : Hid (Row w13 w.heap.size vB ([(0, 9), (11, 12)])) := Row.on (Row.alloc B_12.out _) hb13
  have hl13 : w.heap.size ≤ w13.heap.size := by omega
  have hw13 : Hid (Below w.heap.size w w13) := (hw12.out.alloc (by first | omega | (simp; done) | (simp; omega)) _).trans (hb13.mono (by first | omega | (simp; done) | (simp; omega)))
  clear hb13 m0_12 m1_12 A_12 B_12 hw12
  go_wp2_with (fail)
  refine (ofS 0 2 _).mono ?_
  rintro e w14 ⟨rfl, hb14⟩
  have hz14 := hb14.size
  (try simp at hz14)
  have m0_14 : w14.cell? ⟨w3.heap.size, 0, none⟩ = some (.int .u16 5) := cell_on hb14 m0_13
  have m1_14 : w14.cell? ⟨w3.heap.size, 1, none⟩ = some (.int .u16 9) := cell_on hb14 m1_13
  have A_14 : Hid (Row w14 w.heap.size vA ([(0, 2), (5, 9)])) := Row.on A_13.out hb14
  have B_14 : Hid (Row w14 w.heap.size vB ([(0, 9), (11, 12)])) := Row.on B_13.out hb14
  have C_14 : Hid (Row w14 w.heap.size vC ([(0, 4), (10, 10)])) := Row.on C_13.out hb14
  have hl14 : w.heap.size ≤ w14.heap.size := by omega
  have hw14 : Hid (Below w.heap.size w w14) := hw13.out.trans (hb14.mono (by first | omega | (simp; done) | (simp; omega)))
  clear hb14 m0_13 m1_13 A_13 B_13 C_13 hw13
  go_wp2_with (fail)
  refine (ofS 5 9 _).mono ?_
  rintro e w15 ⟨rfl, hb15⟩
  have hz15 := hb15.size
  (try simp at hz15)
  have m0_15 : w15.cell? ⟨w3.heap.size, 0, none⟩ = some (.int .u16 5) := cell_on hb15 m0_14
  have m1_15 : w15.cell? ⟨w3.heap.size, 1, none⟩ = some (.int .u16 9) := cell_on hb15 m1_14
  have A_15 : Hid (Row w15 w.heap.size vA ([(0, 2), (5, 9)])) := Row.on A_14.out hb15
  have B_15 : Hid (Row w15 w.heap.size vB ([(0, 9), (11, 12)])) := Row.on B_14.out hb15
  have C_15 : Hid (Row w15 w.heap.size vC ([(0, 4), (10, 10)])) := Row.on C_14.out hb15
  have hl15 : w.heap.size ≤ w15.heap.size := by omega
  have hw15 : Hid (Below w.heap.size w w15) := hw14.out.trans (hb15.mono (by first | omega | (simp; done) | (simp; omega)))
  clear hb15 m0_14 m1_14 A_14 B_14 C_14 hw14
  go_wp2_with (fail)
  refine (sameS [(0, 2), (5, 9)] (by decide) _ _ _ (Row.src (Row.alloc A_15.out _)) (src_of_cells (heap_alloc_new _ _) rfl rfl)).mono ?_
  rintro e w16 ⟨rfl, hb16⟩
  have hz16 := hb16.size
  (try simp at hz16)
  have m0_16 : w16.cell? ⟨w3.heap.size, 0, none⟩ = some (.int .u16 5) := cell_on hb16 (cell_alloc m0_15)
  have m1_16 : w16.cell? ⟨w3.heap.size, 1, none⟩ = some (.int .u16 9) := cell_on hb16 (cell_alloc m1_15)
  have A_16 : Hid (Row w16 w.heap.size vA ([(0, 2), (5, 9)])) := Row.on (Row.alloc A_15.out _) hb16
  have B_16 : Hid (Row w16 w.heap.size vB ([(0, 9), (11, 12)])) := Row.on (Row.alloc B_15.out _) hb16
  have C_16 : Hid (Row w16 w.heap.size vC ([(0, 4), (10, 10)])) := Row.on (Row.alloc C_15.out _) hb16
  have hl16 : w.heap.size ≤ w16.heap.size := by omega
  have hw16 : Hid (Below w.heap.size w w16) := (hw15.out.alloc (by first | omega | (simp; done) | (simp; omega)) _).trans (hb16.mono (by first | omega | (simp; done) | (simp; omega)))
  clear hb16 m0_15 m1_15 A_15 B_15 C_15 hw15
  go_wp2_with (fail)
  refine (ofS 0 9 _).mono ?_
  rintro e w17 ⟨rfl, hb17⟩
  have hz17 := hb17.size
  (try simp at hz17)
  have m0_17 : w17.cell? ⟨w3.heap.size, 0, none⟩ = some (.int .u16 5) := cell_on hb17 m0_16
  have m1_17 : w17.cell? ⟨w3.heap.size, 1, none⟩ = some (.int .u16 9) := cell_on hb17 m1_16
  have B_17 : Hid (Row w17 w.heap.size vB ([(0, 9), (11, 12)])) := Row.on B_16.out hb17
  have C_17 : Hid (Row w17 w.heap.size vC ([(0, 4), (10, 10)])) := Row.on C_16.out hb17
  have hl17 : w.heap.size ≤ w17.heap.size := by omega
  have hw17 : Hid (Below w.heap.size w w17) := hw16.out.trans (hb17.mono (by first | omega | (simp; done) | (simp; omega)))
  clear hb17 m0_16 m1_16 B_16 C_16 hw16
  go_wp2_with (fail)
  refine (ofS 11 12 _).mono ?_
  rintro e w18 ⟨rfl, hb18⟩
  have hz18 := hb18.size
  (try simp at hz18)
  have m0_18 : w18.cell? ⟨w3.heap.size, 0, none⟩ = some (.int .u16 5) := cell_on hb18 m0_17
  have m1_18 : w18.cell? ⟨w3.heap.size, 1, none⟩ = some (.int .u16 9) := cell_on hb18 m1_17
  have B_18 : Hid (Row w18 w.heap.size vB ([(0, 9), (11, 12)])) := Row.on B_17.out hb18
  have C_18 : Hid (Row w18 w.heap.size vC ([(0, 4), (10, 10)])) := Row.on C_17.out hb18
  have hl18 : w.heap.size ≤ w18.heap.size := by omega
  have hw18 : Hid (Below w.heap.size w w18) := hw17.out.trans (hb18.mono (by first | omega | (simp; done) | (simp; omega)))
  clear hb18 m0_17 m1_17 B_17 C_17 hw17
  go_wp2_with (fail)
  refine (sameS [(0, 9), (11, 12)] (by decide) _ _ _ (Row.src (Row.alloc B_18.out _)) (src_of_cells (heap_alloc_new _ _) rfl rfl)).mono ?_
  rintro e w19 ⟨rfl, hb19⟩
  have hz19 := hb19.size
  (try simp at hz19)
  have m0_19 : w19.cell? ⟨w3.heap.size, 0, none⟩ = some (.int .u16 5) := cell_on hb19 (cell_alloc m0_18)
  have m1_19 : w19.cell? ⟨w3.heap.size, 1, none⟩ = some (.int .u16 9) := cell_on hb19 (cell_alloc m1_18)
  have B_19 : Hid (Row w19 w.heap.size vB ([(0, 9), (11, 12)])) := Row.on (Row.alloc B_18.out _) hb19
  have C_19 : Hid (Row w19 w.heap.size vC ([(0, 4), (10, 10)])) := Row.on (Row.alloc C_18.out _) hb19
  have hl19 : w.heap.size ≤ w19.heap.size := by omega
  have hw19 : Hid (Below w.heap.size w w19) := (hw18.out.alloc (by first | omega | (simp; done) | (simp; omega)) _).trans (hb19.mono (by first | omega | (simp; done) | (simp; omega)))
  clear hb19 m0_18 m1_18 B_18 C_18 hw18
  go_wp2_with (fail)
  refine (ofS 0 4 _).mono ?_
  rintro e w20 ⟨rfl, hb20⟩
  have hz20 := hb20.size
  (try simp at hz20)
  have m0_20 : w20.cell? ⟨w3.heap.size, 0, none⟩ = some (.int .u16 5) := cell_on hb20 m0_19
  have m1_20 : w20.cell? ⟨w3.heap.size, 1, none⟩ = some (.int .u16 9) := cell_on hb20 m1_19
  have C_20 : Hid (Row w20 w.heap.size vC ([(0, 4), (10, 10)])) := Row.on C_19.out hb20
  have hl20 : w.heap.size ≤ w20.heap.size := by omega
  have hw20 : Hid (Below w.heap.size w w20) := hw19.out.trans (hb20.mono (by first | omega | (simp; done) | (simp; omega)))
  clear hb20 m0_19 m1_19 C_19 hw19
  go_wp2_with (fail)
  refine (ofS 10 10 _).mono ?_
  rintro e w21 ⟨rfl, hb21⟩
  have hz21 := hb21.size
  (try simp at hz21)
  have m0_21 : w21.cell? ⟨w3.heap.size, 0, none⟩ = some (.int .u16 5) := cell_on hb21 m0_20
  have m1_21 : w21.cell? ⟨w3.heap.size, 1, none⟩ = some (.int .u16 9) := cell_on hb21 m1_20
  have C_21 : Hid (Row w21 w.heap.size vC ([(0, 4), (10, 10)])) := Row.on C_20.out hb21
  have hl21 : w.heap.size ≤ w21.heap.size := by omega
  have hw21 : Hid (Below w.heap.size w w21) := hw20.out.trans (hb21.mono (by first | omega | (simp; done) | (simp; omega)))
  clear hb21 m0_20 m1_20 C_20 hw20
  go_wp2_with (fail)
  refine (sameS [(0, 4), (10, 10)] (by decide) _ _ _ (Row.src (Row.alloc C_21.out _)) (src_of_cells (heap_alloc_new _ _) rfl rfl)).mono ?_
  rintro e w22 ⟨rfl, hb22⟩
  have hz22 := hb22.size
  (try simp at hz22)
  have m0_22 : w22.cell? ⟨w3.heap.size, 0, none⟩ = some (.int .u16 5) := cell_on hb22 (cell_alloc m0_21)
  have m1_22 : w22.cell? ⟨w3.heap.size, 1, none⟩ = some (.int .u16 9) := cell_on hb22 (cell_alloc m1_21)
  have C_22 : Hid (Row w22 w.heap.size vC ([(0, 4), (10, 10)])) := Row.on (Row.alloc C_21.out _) hb22
  have hl22 : w.heap.size ≤ w22.heap.size := by omega
  have hw22 : Hid (Below w.heap.size w w22) := (hw21.out.alloc (by first | omega | (simp; done) | (simp; omega)) _).trans (hb22.mono (by first | omega | (simp; done) | (simp; omega)))
  clear hb22 m0_21 m1_21 C_21 hw21
  go_wp2_with (fail)
  refine (ofS 1 2 _).mono ?_
  rintro e w23 ⟨rfl, hb23⟩
  have hz23 := hb23.size
  (try simp at hz23)
  have m0_23 : w23.cell? ⟨w3.heap.size, 0, none⟩ = some (.int .u16 5) := cell_on hb23 m0_22
  have m1_23 : w23.cell? ⟨w3.heap.size, 1, none⟩ = some (.int .u16 9) := cell_on hb23 m1_22
  have hl23 : w.heap.size ≤ w23.heap.size := by omega
  have hw23 : Hid (Below w.heap.size w w23) := hw22.out.trans (hb23.mono (by first | omega | (simp; done) | (simp; omega)))
  clear hb23 m0_22 m1_22 hw22
  go_wp2_with (fail)
  refine (ofS 1 3 _).mono ?_
  rintro e w24 ⟨rfl, hb24⟩
  have hz24 := hb24.size
  (try simp at hz24)
  have m0_24 : w24.cell? ⟨w3.heap.size, 0, none⟩ = some (.int .u16 5) := cell_on hb24 m0_23
  have m1_24 : w24.cell? ⟨w3.heap.size, 1, none⟩ = some (.int .u16 9) := cell_on hb24 m1_23
  have hl24 : w.heap.size ≤ w24.heap.size := by omega
  have hw24 : Hid (Below w.heap.size w w24) := hw23.out.trans (hb24.mono (by first | omega | (simp; done) | (simp; omega)))
  clear hb24 m0_23 m1_23 hw23
  go_wp2_with (fail)
  refine (cmp_ex _).mono ?_
  rintro e w25 ⟨rfl, hb25⟩
  have hz25 := hb25.size
  (try simp at hz25)
  have m0_25 : w25.cell? ⟨w3.heap.size, 0, none⟩ = some (.int .u16 5) := cell_on hb25 m0_24
  have m1_25 : w25.cell? ⟨w3.heap.size, 1, none⟩ = some (.int .u16 9) := cell_on hb25 m1_24
  have hl25 : w.heap.size ≤ w25.heap.size := by omega
  have hw25 : Hid (Below w.heap.size w w25) := hw24.out.trans (hb25.mono (by first | omega | (simp; done) | (simp; omega)))
  clear hb25 m0_24 m1_24 hw24
  go_wp2_with (fail)
  have kne : Nonempty (Kin (w25)) := ⟨⟨_, Below.refl _ _⟩⟩
  have kc0 : ∀ y : Kin (w25), y.val.cell? ⟨w3.heap.size, 0, none⟩ = some (.int .u16 5) := fun y => by rw [kin_cell (by first | omega | (simp <;> omega))]; first | assumption | (simp [go_sem]; done) | simp [go_sem, *]
  have kc1 : ∀ y : Kin (w25), y.val.cell? ⟨w3.heap.size, 1, none⟩ = some (.int .u16 9) := fun y => by rw [kin_cell (by first | omega | (simp <;> omega))]; first | assumption | (simp [go_sem]; done) | simp [go_sem, *]
  refine wp_region_kin (w25) (Below.refl _ _) (by kernel_rfl) (by kernel_rfl) ?_
  repeat (go_big_quiet_step (first | (go_at_call 23; first | exact kin_call (ofS 5 9 _) | exact kin_call (ofS 2 1 _) | exact kin_call (ofS 0 65535 _) | exact kin_call (ofS 5 6 _) | exact kin_call (ofS 0 9 _)) | (go_at_call 24; exact kin_call (chk_ex _)) | (go_at_call 18; exact kin_call (cnt_ex _)) | (go_at_call 25; exact kin_call (wi_ex _))))
  refine wpQuiet_nil ?_
  rintro wq ⟨⟨xq, hxq⟩, hyq⟩
  have hq : Below (w25).heap.size (w25) wq := by rw [hyq]; exact hxq
  clear hyq hxq xq
  clear kne kc0 kc1
  obtain ⟨hcq, hfq⟩ := bcell hq
  have hzq := hq.size
  try simp at hzq
  go_wp2
  go_ret
  exact ⟨rfl, hw25.out.trans (hq.mono hl25)⟩
end Go.Proofs.Ythmekipdhlipbab
