/-
  For every two masks, in both orders, mask.Meet and Within answer as the document says (P4.3), and the examples of the document hold.
  Conditions: none; the law holds for every input.
-/
import Derived.Test.YtphfjhkbbodfaaaMkAw
import Derived.Test.YtphfjhkbbodfaaaMkD
import Derived.Test.YtphfjhkbbodfaaaMkFrame
namespace Go.Proofs.Ytphfjhkbbodfaaa
open Go.ChangeShapes Go.WideShapes Go.ChangeAt Go.RowKit Go.Joins
set_option linter.unusedVariables false
set_option linter.unusedSimpArgs false

theorem meets_alike (v c x d : Nat) (hv : v < 256) (hc : c < 256) (hx : x < 256) (hd : d < 256) : ∃ (p q : Nat) (b : Bool),
    (∀ w, Calls Try.prog 18 #[.agg #[.int .u8 v, .int .u8 c], .agg #[.int .u8 x, .int .u8 d]] w fun e w' => e = .returned (.tuple #[.agg #[.int .u8 p, .int .u8 q], .bool b]) ∧ Below w.heap.size w w')
    ∧ (∀ w, Calls Try.prog 19 #[.agg #[.int .u8 v, .int .u8 c], .agg #[.int .u8 x, .int .u8 d]] w fun e w' => e = .returned (.tuple #[.agg #[.int .u8 p, .int .u8 q], .bool b]) ∧ Below w.heap.size w w') := by
  cases h : (okM v c && okM x d && !apM v c x d)
  · exact ⟨0, 0, false, fun w => meet_no v c x d w hv hc hx hd h, fun w => rmeet_no v c x d w hv hc hx hd h⟩
  · exact ⟨v ||| x, c ||| d, true, fun w => meet_yes v c x d w hv hc hx hd h, fun w => rmeet_yes v c x d w hv hc hx hd h⟩
set_option maxHeartbeats 2000000 in
theorem maskPairs_walk (v c : Nat) (hv : v < 256) (hc : c < 256) (x d : Nat) (hx : x < 256) (hd : d < 256) (w : World) :
    Calls Try.prog 5 #[.agg #[.int .u8 v, .int .u8 c], .agg #[.int .u8 x, .int .u8 d]] w fun e w' => e = .returned (.bool true) ∧ Below w.heap.size w w' := by
  obtain ⟨p, q, b, m1, m2⟩ := meets_alike v c x d hv hc hx hd
  obtain ⟨r, s, t, m3, m4⟩ := meets_alike x d v c hx hd hv hc
  go_enter Try.func5, Try.ntmps5
  go_wp2_with (fail)
  refine (m1 _).mono ?_
  rintro e w1 ⟨rfl, hb1⟩
  have hz1 := hb1.size
  (try simp at hz1)
  have a0_1 : w1.cell? ⟨w.heap.size, 0, none⟩ = some (.int .u8 (v : Int)) := cell_on hb1 (show ((w.alloc (.cells #[.int .u8 (v : Int), .int .u8 (c : Int)] 23)).alloc (.cells #[.int .u8 (x : Int), .int .u8 (d : Int)] 23)).cell? ⟨w.heap.size, 0, none⟩ = some (.int .u8 (v : Int)) from by simp [go_sem])
  have a1_1 : w1.cell? ⟨w.heap.size, 1, none⟩ = some (.int .u8 (c : Int)) := cell_on hb1 (show ((w.alloc (.cells #[.int .u8 (v : Int), .int .u8 (c : Int)] 23)).alloc (.cells #[.int .u8 (x : Int), .int .u8 (d : Int)] 23)).cell? ⟨w.heap.size, 1, none⟩ = some (.int .u8 (c : Int)) from by simp [go_sem])
  have b0_1 : w1.cell? ⟨w.heap.size + 1, 0, none⟩ = some (.int .u8 (x : Int)) := cell_on hb1 (show ((w.alloc (.cells #[.int .u8 (v : Int), .int .u8 (c : Int)] 23)).alloc (.cells #[.int .u8 (x : Int), .int .u8 (d : Int)] 23)).cell? ⟨w.heap.size + 1, 0, none⟩ = some (.int .u8 (x : Int)) from by simp [go_sem])
  have b1_1 : w1.cell? ⟨w.heap.size + 1, 1, none⟩ = some (.int .u8 (d : Int)) := cell_on hb1 (show ((w.alloc (.cells #[.int .u8 (v : Int), .int .u8 (c : Int)] 23)).alloc (.cells #[.int .u8 (x : Int), .int .u8 (d : Int)] 23)).cell? ⟨w.heap.size + 1, 1, none⟩ = some (.int .u8 (d : Int)) from by simp [go_sem])
  have hg1_0 : w.heap.size < w1.heap.size := by omega
  have hg1_1 : w.heap.size + 1 < w1.heap.size := by omega
  have hl1 : w.heap.size ≤ w1.heap.size := by omega
  have hw1 : Hid (Below w.heap.size w w1) := (((Below.refl _ _).alloc (by first | omega | (simp; done) | (simp; omega)) _).alloc (by first | omega | (simp; done) | (simp; omega)) _).trans (hb1.mono (by first | omega | (simp; done) | (simp; omega)))
  clear hb1
  go_wp2_with (fail)
  refine (m2 _).mono ?_
  rintro e w2 ⟨rfl, hb2⟩
  have hz2 := hb2.size
  (try simp at hz2)
  have a0_2 : w2.cell? ⟨w.heap.size, 0, none⟩ = some (.int .u8 (v : Int)) := cell_on hb2 (cell_alloc a0_1)
  have a1_2 : w2.cell? ⟨w.heap.size, 1, none⟩ = some (.int .u8 (c : Int)) := cell_on hb2 (cell_alloc a1_1)
  have b0_2 : w2.cell? ⟨w.heap.size + 1, 0, none⟩ = some (.int .u8 (x : Int)) := cell_on hb2 (cell_alloc b0_1)
  have b1_2 : w2.cell? ⟨w.heap.size + 1, 1, none⟩ = some (.int .u8 (d : Int)) := cell_on hb2 (cell_alloc b1_1)
  have m0_2 : w2.cell? ⟨w1.heap.size, 0, none⟩ = some (.int .u8 (p : Int)) := cell_on hb2 (show (w1.alloc (.cells #[.int .u8 (p : Int), .int .u8 (q : Int)] 23)).cell? ⟨w1.heap.size, 0, none⟩ = some (.int .u8 (p : Int)) from by simp [go_sem])
  have m1_2 : w2.cell? ⟨w1.heap.size, 1, none⟩ = some (.int .u8 (q : Int)) := cell_on hb2 (show (w1.alloc (.cells #[.int .u8 (p : Int), .int .u8 (q : Int)] 23)).cell? ⟨w1.heap.size, 1, none⟩ = some (.int .u8 (q : Int)) from by simp [go_sem])
  have hg2_0 : w.heap.size < w2.heap.size := by omega
  have hg2_1 : w.heap.size + 1 < w2.heap.size := by omega
  have hg2_2 : w1.heap.size < w2.heap.size := by omega
  have hl2 : w.heap.size ≤ w2.heap.size := by omega
  have hw2 : Hid (Below w.heap.size w w2) := (hw1.out.alloc (by first | omega | (simp; done) | (simp; omega)) _).trans (hb2.mono (by first | omega | (simp; done) | (simp; omega)))
  clear hb2 a0_1 a1_1 b0_1 b1_1 hg1_0 hg1_1 hw1
  go_wp2_with (fail)
  refine (m3 _).mono ?_
  rintro e w3 ⟨rfl, hb3⟩
  have hz3 := hb3.size
  (try simp at hz3)
  have a0_3 : w3.cell? ⟨w.heap.size, 0, none⟩ = some (.int .u8 (v : Int)) := cell_on hb3 (cell_alloc a0_2)
  have a1_3 : w3.cell? ⟨w.heap.size, 1, none⟩ = some (.int .u8 (c : Int)) := cell_on hb3 (cell_alloc a1_2)
  have b0_3 : w3.cell? ⟨w.heap.size + 1, 0, none⟩ = some (.int .u8 (x : Int)) := cell_on hb3 (cell_alloc b0_2)
  have b1_3 : w3.cell? ⟨w.heap.size + 1, 1, none⟩ = some (.int .u8 (d : Int)) := cell_on hb3 (cell_alloc b1_2)
  have m0_3 : w3.cell? ⟨w1.heap.size, 0, none⟩ = some (.int .u8 (p : Int)) := cell_on hb3 (cell_alloc m0_2)
  have m1_3 : w3.cell? ⟨w1.heap.size, 1, none⟩ = some (.int .u8 (q : Int)) := cell_on hb3 (cell_alloc m1_2)
  have n0_3 : w3.cell? ⟨w2.heap.size, 0, none⟩ = some (.int .u8 (p : Int)) := cell_on hb3 (show (w2.alloc (.cells #[.int .u8 (p : Int), .int .u8 (q : Int)] 23)).cell? ⟨w2.heap.size, 0, none⟩ = some (.int .u8 (p : Int)) from by simp [go_sem])
  have n1_3 : w3.cell? ⟨w2.heap.size, 1, none⟩ = some (.int .u8 (q : Int)) := cell_on hb3 (show (w2.alloc (.cells #[.int .u8 (p : Int), .int .u8 (q : Int)] 23)).cell? ⟨w2.heap.size, 1, none⟩ = some (.int .u8 (q : Int)) from by simp [go_sem])
  have hg3_0 : w.heap.size < w3.heap.size := by omega
  have hg3_1 : w.heap.size + 1 < w3.heap.size := by omega
  have hg3_2 : w1.heap.size < w3.heap.size := by omega
  have hg3_3 : w2.heap.size < w3.heap.size := by omega
  have hl3 : w.heap.size ≤ w3.heap.size := by omega
  have hw3 : Hid (Below w.heap.size w w3) := (hw2.out.alloc (by first | omega | (simp; done) | (simp; omega)) _).trans (hb3.mono (by first | omega | (simp; done) | (simp; omega)))
  clear hb3 a0_2 a1_2 b0_2 b1_2 m0_2 m1_2 hg2_0 hg2_1 hg2_2 hw2
  go_wp2_with (fail)
  refine (m4 _).mono ?_
  rintro e w4 ⟨rfl, hb4⟩
  have hz4 := hb4.size
  (try simp at hz4)
  have a0_4 : w4.cell? ⟨w.heap.size, 0, none⟩ = some (.int .u8 (v : Int)) := cell_on hb4 (cell_alloc a0_3)
  have a1_4 : w4.cell? ⟨w.heap.size, 1, none⟩ = some (.int .u8 (c : Int)) := cell_on hb4 (cell_alloc a1_3)
  have b0_4 : w4.cell? ⟨w.heap.size + 1, 0, none⟩ = some (.int .u8 (x : Int)) := cell_on hb4 (cell_alloc b0_3)
  have b1_4 : w4.cell? ⟨w.heap.size + 1, 1, none⟩ = some (.int .u8 (d : Int)) := cell_on hb4 (cell_alloc b1_3)
  have m0_4 : w4.cell? ⟨w1.heap.size, 0, none⟩ = some (.int .u8 (p : Int)) := cell_on hb4 (cell_alloc m0_3)
  have m1_4 : w4.cell? ⟨w1.heap.size, 1, none⟩ = some (.int .u8 (q : Int)) := cell_on hb4 (cell_alloc m1_3)
  have n0_4 : w4.cell? ⟨w2.heap.size, 0, none⟩ = some (.int .u8 (p : Int)) := cell_on hb4 (cell_alloc n0_3)
  have n1_4 : w4.cell? ⟨w2.heap.size, 1, none⟩ = some (.int .u8 (q : Int)) := cell_on hb4 (cell_alloc n1_3)
  have o0_4 : w4.cell? ⟨w3.heap.size, 0, none⟩ = some (.int .u8 (r : Int)) := cell_on hb4 (show (w3.alloc (.cells #[.int .u8 (r : Int), .int .u8 (s : Int)] 23)).cell? ⟨w3.heap.size, 0, none⟩ = some (.int .u8 (r : Int)) from by simp [go_sem])
  have o1_4 : w4.cell? ⟨w3.heap.size, 1, none⟩ = some (.int .u8 (s : Int)) := cell_on hb4 (show (w3.alloc (.cells #[.int .u8 (r : Int), .int .u8 (s : Int)] 23)).cell? ⟨w3.heap.size, 1, none⟩ = some (.int .u8 (s : Int)) from by simp [go_sem])
  have hg4_0 : w.heap.size < w4.heap.size := by omega
  have hg4_1 : w.heap.size + 1 < w4.heap.size := by omega
  have hg4_2 : w1.heap.size < w4.heap.size := by omega
  have hg4_3 : w2.heap.size < w4.heap.size := by omega
  have hg4_4 : w3.heap.size < w4.heap.size := by omega
  have hl4 : w.heap.size ≤ w4.heap.size := by omega
  have hw4 : Hid (Below w.heap.size w w4) := (hw3.out.alloc (by first | omega | (simp; done) | (simp; omega)) _).trans (hb4.mono (by first | omega | (simp; done) | (simp; omega)))
  clear hb4 a0_3 a1_3 b0_3 b1_3 m0_3 m1_3 n0_3 n1_3 hg3_0 hg3_1 hg3_2 hg3_3 hw3
  go_wp2_with (fail)
  have kne : Nonempty (Kin (w4.alloc (.cells #[.int .u8 (r : Int), .int .u8 (s : Int)] 23))) := ⟨⟨_, Below.refl _ _⟩⟩
  have kc0 : ∀ y : Kin (w4.alloc (.cells #[.int .u8 (r : Int), .int .u8 (s : Int)] 23)), y.val.cell? ⟨w.heap.size, 0, none⟩ = some (.int .u8 (v : Int)) := fun y => cell_on y.is (cell_alloc a0_4)
  have kc1 : ∀ y : Kin (w4.alloc (.cells #[.int .u8 (r : Int), .int .u8 (s : Int)] 23)), y.val.cell? ⟨w.heap.size, 1, none⟩ = some (.int .u8 (c : Int)) := fun y => cell_on y.is (cell_alloc a1_4)
  have kc2 : ∀ y : Kin (w4.alloc (.cells #[.int .u8 (r : Int), .int .u8 (s : Int)] 23)), y.val.cell? ⟨w.heap.size + 1, 0, none⟩ = some (.int .u8 (x : Int)) := fun y => cell_on y.is (cell_alloc b0_4)
  have kc3 : ∀ y : Kin (w4.alloc (.cells #[.int .u8 (r : Int), .int .u8 (s : Int)] 23)), y.val.cell? ⟨w.heap.size + 1, 1, none⟩ = some (.int .u8 (d : Int)) := fun y => cell_on y.is (cell_alloc b1_4)
  have kc4 : ∀ y : Kin (w4.alloc (.cells #[.int .u8 (r : Int), .int .u8 (s : Int)] 23)), y.val.cell? ⟨w1.heap.size, 0, none⟩ = some (.int .u8 (p : Int)) := fun y => cell_on y.is (cell_alloc m0_4)
  have kc5 : ∀ y : Kin (w4.alloc (.cells #[.int .u8 (r : Int), .int .u8 (s : Int)] 23)), y.val.cell? ⟨w1.heap.size, 1, none⟩ = some (.int .u8 (q : Int)) := fun y => cell_on y.is (cell_alloc m1_4)
  have kc6 : ∀ y : Kin (w4.alloc (.cells #[.int .u8 (r : Int), .int .u8 (s : Int)] 23)), y.val.cell? ⟨w2.heap.size, 0, none⟩ = some (.int .u8 (p : Int)) := fun y => cell_on y.is (cell_alloc n0_4)
  have kc7 : ∀ y : Kin (w4.alloc (.cells #[.int .u8 (r : Int), .int .u8 (s : Int)] 23)), y.val.cell? ⟨w2.heap.size, 1, none⟩ = some (.int .u8 (q : Int)) := fun y => cell_on y.is (cell_alloc n1_4)
  have kc8 : ∀ y : Kin (w4.alloc (.cells #[.int .u8 (r : Int), .int .u8 (s : Int)] 23)), y.val.cell? ⟨w3.heap.size, 0, none⟩ = some (.int .u8 (r : Int)) := fun y => cell_on y.is (cell_alloc o0_4)
  have kc9 : ∀ y : Kin (w4.alloc (.cells #[.int .u8 (r : Int), .int .u8 (s : Int)] 23)), y.val.cell? ⟨w3.heap.size, 1, none⟩ = some (.int .u8 (s : Int)) := fun y => cell_on y.is (cell_alloc o1_4)
  have kc10 : ∀ y : Kin (w4.alloc (.cells #[.int .u8 (r : Int), .int .u8 (s : Int)] 23)), y.val.cell? ⟨w4.heap.size, 0, none⟩ = some (.int .u8 (r : Int)) := fun y => cell_on y.is (show (w4.alloc (.cells #[.int .u8 (r : Int), .int .u8 (s : Int)] 23)).cell? ⟨w4.heap.size, 0, none⟩ = some (.int .u8 (r : Int)) from by simp [go_sem])
  have kc11 : ∀ y : Kin (w4.alloc (.cells #[.int .u8 (r : Int), .int .u8 (s : Int)] 23)), y.val.cell? ⟨w4.heap.size, 1, none⟩ = some (.int .u8 (s : Int)) := fun y => cell_on y.is (show (w4.alloc (.cells #[.int .u8 (r : Int), .int .u8 (s : Int)] 23)).cell? ⟨w4.heap.size, 1, none⟩ = some (.int .u8 (s : Int)) from by simp [go_sem])
  refine wp_region_kin (w4.alloc (.cells #[.int .u8 (r : Int), .int .u8 (s : Int)] 23)) (Below.refl _ _) (by kernel_rfl) (by kernel_rfl) ?_
  repeat (go_big_quiet_step (first | (go_at_call 20; refine kin_call (withinM _ _ _ _ _ ?_ ?_ ?_ ?_) <;> assumption) | (go_at_call 21; refine kin_call (rwithinM _ _ _ _ _ ?_ ?_ ?_ ?_) <;> assumption)))
  refine wpQuiet_nil ?_
  rintro w5 ⟨⟨xq, hxq⟩, hyq⟩
  have hb5 : Below (w4.alloc (.cells #[.int .u8 (r : Int), .int .u8 (s : Int)] 23)).heap.size (w4.alloc (.cells #[.int .u8 (r : Int), .int .u8 (s : Int)] 23)) w5 := by rw [hyq]; exact hxq
  clear hyq hxq xq
  clear kne kc0 kc1 kc2 kc3 kc4 kc5 kc6 kc7 kc8 kc9 kc10 kc11
  have hz5 := hb5.size
  (try simp at hz5)
  have a0_5 : w5.cell? ⟨w.heap.size, 0, none⟩ = some (.int .u8 (v : Int)) := cell_on hb5 (cell_alloc a0_4)
  have a1_5 : w5.cell? ⟨w.heap.size, 1, none⟩ = some (.int .u8 (c : Int)) := cell_on hb5 (cell_alloc a1_4)
  have b0_5 : w5.cell? ⟨w.heap.size + 1, 0, none⟩ = some (.int .u8 (x : Int)) := cell_on hb5 (cell_alloc b0_4)
  have b1_5 : w5.cell? ⟨w.heap.size + 1, 1, none⟩ = some (.int .u8 (d : Int)) := cell_on hb5 (cell_alloc b1_4)
  have m0_5 : w5.cell? ⟨w1.heap.size, 0, none⟩ = some (.int .u8 (p : Int)) := cell_on hb5 (cell_alloc m0_4)
  have m1_5 : w5.cell? ⟨w1.heap.size, 1, none⟩ = some (.int .u8 (q : Int)) := cell_on hb5 (cell_alloc m1_4)
  have n0_5 : w5.cell? ⟨w2.heap.size, 0, none⟩ = some (.int .u8 (p : Int)) := cell_on hb5 (cell_alloc n0_4)
  have n1_5 : w5.cell? ⟨w2.heap.size, 1, none⟩ = some (.int .u8 (q : Int)) := cell_on hb5 (cell_alloc n1_4)
  have o0_5 : w5.cell? ⟨w3.heap.size, 0, none⟩ = some (.int .u8 (r : Int)) := cell_on hb5 (cell_alloc o0_4)
  have o1_5 : w5.cell? ⟨w3.heap.size, 1, none⟩ = some (.int .u8 (s : Int)) := cell_on hb5 (cell_alloc o1_4)
  have k0_5 : w5.cell? ⟨w4.heap.size, 0, none⟩ = some (.int .u8 (r : Int)) := cell_on hb5 (show (w4.alloc (.cells #[.int .u8 (r : Int), .int .u8 (s : Int)] 23)).cell? ⟨w4.heap.size, 0, none⟩ = some (.int .u8 (r : Int)) from by simp [go_sem])
  have k1_5 : w5.cell? ⟨w4.heap.size, 1, none⟩ = some (.int .u8 (s : Int)) := cell_on hb5 (show (w4.alloc (.cells #[.int .u8 (r : Int), .int .u8 (s : Int)] 23)).cell? ⟨w4.heap.size, 1, none⟩ = some (.int .u8 (s : Int)) from by simp [go_sem])
  have hg5_0 : w.heap.size < w5.heap.size := by omega
  have hg5_1 : w.heap.size + 1 < w5.heap.size := by omega
  have hg5_2 : w1.heap.size < w5.heap.size := by omega
  have hg5_3 : w2.heap.size < w5.heap.size := by omega
  have hg5_4 : w3.heap.size < w5.heap.size := by omega
  have hg5_5 : w4.heap.size < w5.heap.size := by omega
  have hl5 : w.heap.size ≤ w5.heap.size := by omega
  have hw5 : Hid (Below w.heap.size w w5) := (hw4.out.alloc (by first | omega | (simp; done) | (simp; omega)) _).trans (hb5.mono (by first | omega | (simp; done) | (simp; omega)))
  clear hb5 a0_4 a1_4 b0_4 b1_4 m0_4 m1_4 n0_4 n1_4 o0_4 o1_4 hg4_0 hg4_1 hg4_2 hg4_3 hg4_4 hw4
  go_wp2_with (fail)
  refine (awakeM _).mono ?_
  rintro e w6 ⟨rfl, hb6⟩
  have hz6 := hb6.size
  (try simp at hz6)
  have a0_6 : w6.cell? ⟨w.heap.size, 0, none⟩ = some (.int .u8 (v : Int)) := cell_on hb6 a0_5
  have a1_6 : w6.cell? ⟨w.heap.size, 1, none⟩ = some (.int .u8 (c : Int)) := cell_on hb6 a1_5
  have b0_6 : w6.cell? ⟨w.heap.size + 1, 0, none⟩ = some (.int .u8 (x : Int)) := cell_on hb6 b0_5
  have b1_6 : w6.cell? ⟨w.heap.size + 1, 1, none⟩ = some (.int .u8 (d : Int)) := cell_on hb6 b1_5
  have m0_6 : w6.cell? ⟨w1.heap.size, 0, none⟩ = some (.int .u8 (p : Int)) := cell_on hb6 m0_5
  have m1_6 : w6.cell? ⟨w1.heap.size, 1, none⟩ = some (.int .u8 (q : Int)) := cell_on hb6 m1_5
  have n0_6 : w6.cell? ⟨w2.heap.size, 0, none⟩ = some (.int .u8 (p : Int)) := cell_on hb6 n0_5
  have n1_6 : w6.cell? ⟨w2.heap.size, 1, none⟩ = some (.int .u8 (q : Int)) := cell_on hb6 n1_5
  have o0_6 : w6.cell? ⟨w3.heap.size, 0, none⟩ = some (.int .u8 (r : Int)) := cell_on hb6 o0_5
  have o1_6 : w6.cell? ⟨w3.heap.size, 1, none⟩ = some (.int .u8 (s : Int)) := cell_on hb6 o1_5
  have k0_6 : w6.cell? ⟨w4.heap.size, 0, none⟩ = some (.int .u8 (r : Int)) := cell_on hb6 k0_5
  have k1_6 : w6.cell? ⟨w4.heap.size, 1, none⟩ = some (.int .u8 (s : Int)) := cell_on hb6 k1_5
  have hg6_0 : w.heap.size < w6.heap.size := by omega
  have hg6_1 : w.heap.size + 1 < w6.heap.size := by omega
  have hg6_2 : w1.heap.size < w6.heap.size := by omega
  have hg6_3 : w2.heap.size < w6.heap.size := by omega
  have hg6_4 : w3.heap.size < w6.heap.size := by omega
  have hg6_5 : w4.heap.size < w6.heap.size := by omega
  have hl6 : w.heap.size ≤ w6.heap.size := by omega
  have hw6 : Hid (Below w.heap.size w w6) := hw5.out.trans (hb6.mono (by first | omega | (simp; done) | (simp; omega)))
  clear hb6 a0_5 a1_5 b0_5 b1_5 m0_5 m1_5 n0_5 n1_5 o0_5 o1_5 k0_5 k1_5 hg5_0 hg5_1 hg5_2 hg5_3 hg5_4 hg5_5 hw5
  go_wp2_with (fail)
  go_ret
  exact ⟨ret_same (by simp), hw6.out⟩

set_option maxRecDepth 100000 in
theorem maskPairs_lifted (os : Os) (started : os.Started) (H : Type) (enc : TypeId × Value → H) :
    ReturnsInHanded {} Try.checked os 5 .any (Rows.maskPairsSpec.pre6 enc Try.prog Try.f5 Rows.maskPairsRow.domain false) (Rows.maskPairsSpec.post enc Try.prog Try.f5 false true false false) := by
  refine returnsInHanded_of_change (C := Try.checked) own started (by kernel_rfl) Try.func5
    (ChangeSpec.witness6 (enc := enc) (C := Try.checked) false ⟨#[], #[.agg #[.int .u8 0, .int .u8 0], .agg #[.int .u8 0, .int .u8 0]], []⟩ 8 (by kernel_rfl) (by kernel_rfl) (by kernel_rfl) (by kernel_rfl)) ?_
  intro W base args ds gs before hval0 hW hcnd _
  have hval : ∀ (j : Nat) t v, Try.f5.params[j]? = some t → args[j]? = some v → Value.okWide Try.prog W .any base t v := hval0
  have hW' := hW
  obtain ⟨p, q, hA0, hV, rfl, hfz, hnd⟩ := hW
  have hA : DataW.TrodAll enc Try.prog W 0 (fun _ => true) true Try.f5.params.toList args.toList ds p := hA0
  rw [Try.params5] at hA hval
  obtain ⟨v0, vs0, d0, ds0, p0, q0, hargs, rfl, rfl, h0, r0⟩ := trodAll_cons hA
  obtain ⟨v1, vs1, d1, ds1, p1, q1, rfl, rfl, rfl, h1, r1⟩ := trodAll_cons r0
  obtain ⟨rfl, rfl, rfl⟩ := trodAll_nil r1
  obtain rfl : args = #[v0, v1] := by cases args; simp_all
  obtain ⟨rfl, rfl⟩ := trodVars_none hV
  obtain ⟨a0, n0, rfl, rfl, rfl, w0, x0⟩ := open_mk (hval 0 23 v0 rfl rfl) h0
  obtain ⟨b0, rfl, t0⟩ := wf_u8 w0
  obtain ⟨c0, rfl, u0⟩ := wf_u8 x0
  obtain ⟨a1, n1, rfl, rfl, rfl, w1, x1⟩ := open_mk (hval 1 23 v1 rfl rfl) h1
  obtain ⟨b1, rfl, t1⟩ := wf_u8 w1
  obtain ⟨c1, rfl, u1⟩ := wf_u8 x1
  clear hA0 hval0
  simp only [List.append_nil] at hW'
  refine (maskPairs_walk b0 c0 t0 u0 b1 c1 t1 u1 W ).mono fun e W' ⟨he, bel⟩ => ?_
  subst he
  exact ⟨_, rfl, _, _, _, [], _, [], hW', trodAll_mk1 (shut_bool Try.underlying4 _), (trodAll_cons_mk (shut_mk w0 x0) (trodAll_cons_mk (shut_mk w1 x1) trodAll_mk0)), rfl, bel.frame _, fun h => by cases h⟩

/-- The given statement. -/
theorem maskPairs_holds : Rows.MaskPairsSaid :=
  OpenClaim.holds_of_wide 5 Try.f5 rfl rfl rfl rfl rfl rfl rfl ⟨rfl, rfl, rfl, rfl, rfl⟩ rfl rfl rfl rfl rfl (by kernel_rfl) Try.func5 (by kernel_rfl)
    (of_decide_eq_true (by kernel_rfl)) (by unfold Func.isWrapper; first | (rw [if_pos (by decide +kernel)]; kernel_rfl) | (rw [if_neg (by decide +kernel)]; exact ⟨rfl, rfl⟩))
    (fun os started H enc _ => maskPairs_lifted os started H enc)
#print axioms maskPairs_holds
end Go.Proofs.Ytphfjhkbbodfaaa
