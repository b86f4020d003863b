/-
  For every two spans, in both orders, span.Meet and Within answer as the document says, and the examples of the document hold.
  Conditions: none; the law holds for every input.
-/
import Derived.Test.YthmekipdhlipbaaSpAw
import Derived.Test.YthmekipdhlipbaaSpRa
import Derived.Test.YthmekipdhlipbaaSpFrame
namespace Go.Proofs.Ythmekipdhlipbaa
open Go.ChangeShapes Go.WideShapes Go.ChangeAt Go.RowKit Go.Joins
set_option linter.unusedVariables false
set_option linter.unusedSimpArgs false

set_option maxHeartbeats 1000000 in
theorem spanMeets_walk (a b : Nat) (ha : a < 65536) (hb : b < 65536) (c d : Nat) (hc : c < 65536) (hd : d < 65536) (w : World) :
    Calls Try.prog 6 #[.agg #[.int .u16 a, .int .u16 b], .agg #[.int .u16 c, .int .u16 d]] w fun e w' => e = .returned (.bool true) ∧ Below w.heap.size w w' := by
  obtain ⟨p, q, r, m1, m2, m3⟩ := meets_alike a b c d
  go_enter Try.func6, Try.ntmps6
  go_wp2_with (fail)
  refine (m1 _).mono ?_
  rintro e w1 ⟨rfl, hb1⟩
  have hz1 := hb1.size
  (try simp at hz1)
  have x0_1 : w1.cell? ⟨w.heap.size, 0, none⟩ = some (.int .u16 (a : Int)) := cell_on hb1 (show ((w.alloc (.cells #[.int .u16 (a : Int), .int .u16 (b : Int)] 41)).alloc (.cells #[.int .u16 (c : Int), .int .u16 (d : Int)] 41)).cell? ⟨w.heap.size, 0, none⟩ = some (.int .u16 (a : Int)) from by simp [go_sem])
  have x1_1 : w1.cell? ⟨w.heap.size, 1, none⟩ = some (.int .u16 (b : Int)) := cell_on hb1 (show ((w.alloc (.cells #[.int .u16 (a : Int), .int .u16 (b : Int)] 41)).alloc (.cells #[.int .u16 (c : Int), .int .u16 (d : Int)] 41)).cell? ⟨w.heap.size, 1, none⟩ = some (.int .u16 (b : Int)) from by simp [go_sem])
  have y0_1 : w1.cell? ⟨w.heap.size + 1, 0, none⟩ = some (.int .u16 (c : Int)) := cell_on hb1 (show ((w.alloc (.cells #[.int .u16 (a : Int), .int .u16 (b : Int)] 41)).alloc (.cells #[.int .u16 (c : Int), .int .u16 (d : Int)] 41)).cell? ⟨w.heap.size + 1, 0, none⟩ = some (.int .u16 (c : Int)) from by simp [go_sem])
  have y1_1 : w1.cell? ⟨w.heap.size + 1, 1, none⟩ = some (.int .u16 (d : Int)) := cell_on hb1 (show ((w.alloc (.cells #[.int .u16 (a : Int), .int .u16 (b : Int)] 41)).alloc (.cells #[.int .u16 (c : Int), .int .u16 (d : Int)] 41)).cell? ⟨w.heap.size + 1, 1, none⟩ = some (.int .u16 (d : Int)) from by simp [go_sem])
  have hg1_0 : w.heap.size < w1.heap.size := by omega
  have hg1_1 : w.heap.size + 1 < w1.heap.size := by omega
  have hl1 : w.heap.size ≤ w1.heap.size := by omega
  have hw1 : Hid (Below w.heap.size w w1) := (((Below.refl _ _).alloc (by first | omega | (simp; done) | (simp; omega)) _).alloc (by first | omega | (simp; done) | (simp; omega)) _).trans (hb1.mono (by first | omega | (simp; done) | (simp; omega)))
  clear hb1
  go_wp2_with (fail)
  refine (m2 _).mono ?_
  rintro e w2 ⟨rfl, hb2⟩
  have hz2 := hb2.size
  (try simp at hz2)
  have x0_2 : w2.cell? ⟨w.heap.size, 0, none⟩ = some (.int .u16 (a : Int)) := cell_on hb2 (cell_alloc x0_1)
  have x1_2 : w2.cell? ⟨w.heap.size, 1, none⟩ = some (.int .u16 (b : Int)) := cell_on hb2 (cell_alloc x1_1)
  have y0_2 : w2.cell? ⟨w.heap.size + 1, 0, none⟩ = some (.int .u16 (c : Int)) := cell_on hb2 (cell_alloc y0_1)
  have y1_2 : w2.cell? ⟨w.heap.size + 1, 1, none⟩ = some (.int .u16 (d : Int)) := cell_on hb2 (cell_alloc y1_1)
  have m0_2 : w2.cell? ⟨w1.heap.size, 0, none⟩ = some (.int .u16 (p : Int)) := cell_on hb2 (show (w1.alloc (.cells #[.int .u16 (p : Int), .int .u16 (q : Int)] 41)).cell? ⟨w1.heap.size, 0, none⟩ = some (.int .u16 (p : Int)) from by simp [go_sem])
  have m1_2 : w2.cell? ⟨w1.heap.size, 1, none⟩ = some (.int .u16 (q : Int)) := cell_on hb2 (show (w1.alloc (.cells #[.int .u16 (p : Int), .int .u16 (q : Int)] 41)).cell? ⟨w1.heap.size, 1, none⟩ = some (.int .u16 (q : Int)) from by simp [go_sem])
  have hg2_0 : w.heap.size < w2.heap.size := by omega
  have hg2_1 : w.heap.size + 1 < w2.heap.size := by omega
  have hg2_2 : w1.heap.size < w2.heap.size := by omega
  have hl2 : w.heap.size ≤ w2.heap.size := by omega
  have hw2 : Hid (Below w.heap.size w w2) := (hw1.out.alloc (by first | omega | (simp; done) | (simp; omega)) _).trans (hb2.mono (by first | omega | (simp; done) | (simp; omega)))
  clear hb2 x0_1 x1_1 y0_1 y1_1 hg1_0 hg1_1 hw1
  go_wp2_with (fail)
  refine (m3 _).mono ?_
  rintro e w3 ⟨rfl, hb3⟩
  have hz3 := hb3.size
  (try simp at hz3)
  have x0_3 : w3.cell? ⟨w.heap.size, 0, none⟩ = some (.int .u16 (a : Int)) := cell_on hb3 (cell_alloc x0_2)
  have x1_3 : w3.cell? ⟨w.heap.size, 1, none⟩ = some (.int .u16 (b : Int)) := cell_on hb3 (cell_alloc x1_2)
  have y0_3 : w3.cell? ⟨w.heap.size + 1, 0, none⟩ = some (.int .u16 (c : Int)) := cell_on hb3 (cell_alloc y0_2)
  have y1_3 : w3.cell? ⟨w.heap.size + 1, 1, none⟩ = some (.int .u16 (d : Int)) := cell_on hb3 (cell_alloc y1_2)
  have m0_3 : w3.cell? ⟨w1.heap.size, 0, none⟩ = some (.int .u16 (p : Int)) := cell_on hb3 (cell_alloc m0_2)
  have m1_3 : w3.cell? ⟨w1.heap.size, 1, none⟩ = some (.int .u16 (q : Int)) := cell_on hb3 (cell_alloc m1_2)
  have n0_3 : w3.cell? ⟨w2.heap.size, 0, none⟩ = some (.int .u16 (p : Int)) := cell_on hb3 (show (w2.alloc (.cells #[.int .u16 (p : Int), .int .u16 (q : Int)] 41)).cell? ⟨w2.heap.size, 0, none⟩ = some (.int .u16 (p : Int)) from by simp [go_sem])
  have n1_3 : w3.cell? ⟨w2.heap.size, 1, none⟩ = some (.int .u16 (q : Int)) := cell_on hb3 (show (w2.alloc (.cells #[.int .u16 (p : Int), .int .u16 (q : Int)] 41)).cell? ⟨w2.heap.size, 1, none⟩ = some (.int .u16 (q : Int)) from by simp [go_sem])
  have hg3_0 : w.heap.size < w3.heap.size := by omega
  have hg3_1 : w.heap.size + 1 < w3.heap.size := by omega
  have hg3_2 : w1.heap.size < w3.heap.size := by omega
  have hg3_3 : w2.heap.size < w3.heap.size := by omega
  have hl3 : w.heap.size ≤ w3.heap.size := by omega
  have hw3 : Hid (Below w.heap.size w w3) := (hw2.out.alloc (by first | omega | (simp; done) | (simp; omega)) _).trans (hb3.mono (by first | omega | (simp; done) | (simp; omega)))
  clear hb3 x0_2 x1_2 y0_2 y1_2 m0_2 m1_2 hg2_0 hg2_1 hg2_2 hw2
  go_wp2_with (fail)
  have kne : Nonempty (Kin (w3.alloc (.cells #[.int .u16 (p : Int), .int .u16 (q : Int)] 41))) := ⟨⟨_, Below.refl _ _⟩⟩
  have kc0 : ∀ y : Kin (w3.alloc (.cells #[.int .u16 (p : Int), .int .u16 (q : Int)] 41)), y.val.cell? ⟨w.heap.size, 0, none⟩ = some (.int .u16 (a : Int)) := fun y => cell_on y.is (cell_alloc x0_3)
  have kc1 : ∀ y : Kin (w3.alloc (.cells #[.int .u16 (p : Int), .int .u16 (q : Int)] 41)), y.val.cell? ⟨w.heap.size, 1, none⟩ = some (.int .u16 (b : Int)) := fun y => cell_on y.is (cell_alloc x1_3)
  have kc2 : ∀ y : Kin (w3.alloc (.cells #[.int .u16 (p : Int), .int .u16 (q : Int)] 41)), y.val.cell? ⟨w.heap.size + 1, 0, none⟩ = some (.int .u16 (c : Int)) := fun y => cell_on y.is (cell_alloc y0_3)
  have kc3 : ∀ y : Kin (w3.alloc (.cells #[.int .u16 (p : Int), .int .u16 (q : Int)] 41)), y.val.cell? ⟨w.heap.size + 1, 1, none⟩ = some (.int .u16 (d : Int)) := fun y => cell_on y.is (cell_alloc y1_3)
  have kc4 : ∀ y : Kin (w3.alloc (.cells #[.int .u16 (p : Int), .int .u16 (q : Int)] 41)), y.val.cell? ⟨w1.heap.size, 0, none⟩ = some (.int .u16 (p : Int)) := fun y => cell_on y.is (cell_alloc m0_3)
  have kc5 : ∀ y : Kin (w3.alloc (.cells #[.int .u16 (p : Int), .int .u16 (q : Int)] 41)), y.val.cell? ⟨w1.heap.size, 1, none⟩ = some (.int .u16 (q : Int)) := fun y => cell_on y.is (cell_alloc m1_3)
  have kc6 : ∀ y : Kin (w3.alloc (.cells #[.int .u16 (p : Int), .int .u16 (q : Int)] 41)), y.val.cell? ⟨w2.heap.size, 0, none⟩ = some (.int .u16 (p : Int)) := fun y => cell_on y.is (cell_alloc n0_3)
  have kc7 : ∀ y : Kin (w3.alloc (.cells #[.int .u16 (p : Int), .int .u16 (q : Int)] 41)), y.val.cell? ⟨w2.heap.size, 1, none⟩ = some (.int .u16 (q : Int)) := fun y => cell_on y.is (cell_alloc n1_3)
  have kc8 : ∀ y : Kin (w3.alloc (.cells #[.int .u16 (p : Int), .int .u16 (q : Int)] 41)), y.val.cell? ⟨w3.heap.size, 0, none⟩ = some (.int .u16 (p : Int)) := fun y => cell_on y.is (show (w3.alloc (.cells #[.int .u16 (p : Int), .int .u16 (q : Int)] 41)).cell? ⟨w3.heap.size, 0, none⟩ = some (.int .u16 (p : Int)) from by simp [go_sem])
  have kc9 : ∀ y : Kin (w3.alloc (.cells #[.int .u16 (p : Int), .int .u16 (q : Int)] 41)), y.val.cell? ⟨w3.heap.size, 1, none⟩ = some (.int .u16 (q : Int)) := fun y => cell_on y.is (show (w3.alloc (.cells #[.int .u16 (p : Int), .int .u16 (q : Int)] 41)).cell? ⟨w3.heap.size, 1, none⟩ = some (.int .u16 (q : Int)) from by simp [go_sem])
  refine wp_region_kin (w3.alloc (.cells #[.int .u16 (p : Int), .int .u16 (q : Int)] 41)) (Below.refl _ _) (by kernel_rfl) (by kernel_rfl) ?_
  repeat (go_big_quiet_step (first | (go_at_call 26; exact kin_call (withinS _ _ _ _ _)) | (go_at_call 27; exact kin_call (rwithinS _ _ _ _ _)) | (go_at_call 17; exact kin_call (awakeS _))))
  refine wpQuiet_nil ?_
  rintro w4 ⟨⟨xq, hxq⟩, hyq⟩
  have hb4 : Below (w3.alloc (.cells #[.int .u16 (p : Int), .int .u16 (q : Int)] 41)).heap.size (w3.alloc (.cells #[.int .u16 (p : Int), .int .u16 (q : Int)] 41)) w4 := by rw [hyq]; exact hxq
  clear hyq hxq xq
  clear kne kc0 kc1 kc2 kc3 kc4 kc5 kc6 kc7 kc8 kc9
  have hz4 := hb4.size
  (try simp at hz4)
  have x0_4 : w4.cell? ⟨w.heap.size, 0, none⟩ = some (.int .u16 (a : Int)) := cell_on hb4 (cell_alloc x0_3)
  have x1_4 : w4.cell? ⟨w.heap.size, 1, none⟩ = some (.int .u16 (b : Int)) := cell_on hb4 (cell_alloc x1_3)
  have y0_4 : w4.cell? ⟨w.heap.size + 1, 0, none⟩ = some (.int .u16 (c : Int)) := cell_on hb4 (cell_alloc y0_3)
  have y1_4 : w4.cell? ⟨w.heap.size + 1, 1, none⟩ = some (.int .u16 (d : Int)) := cell_on hb4 (cell_alloc y1_3)
  have m0_4 : w4.cell? ⟨w1.heap.size, 0, none⟩ = some (.int .u16 (p : Int)) := cell_on hb4 (cell_alloc m0_3)
  have m1_4 : w4.cell? ⟨w1.heap.size, 1, none⟩ = some (.int .u16 (q : Int)) := cell_on hb4 (cell_alloc m1_3)
  have n0_4 : w4.cell? ⟨w2.heap.size, 0, none⟩ = some (.int .u16 (p : Int)) := cell_on hb4 (cell_alloc n0_3)
  have n1_4 : w4.cell? ⟨w2.heap.size, 1, none⟩ = some (.int .u16 (q : Int)) := cell_on hb4 (cell_alloc n1_3)
  have o0_4 : w4.cell? ⟨w3.heap.size, 0, none⟩ = some (.int .u16 (p : Int)) := cell_on hb4 (show (w3.alloc (.cells #[.int .u16 (p : Int), .int .u16 (q : Int)] 41)).cell? ⟨w3.heap.size, 0, none⟩ = some (.int .u16 (p : Int)) from by simp [go_sem])
  have o1_4 : w4.cell? ⟨w3.heap.size, 1, none⟩ = some (.int .u16 (q : Int)) := cell_on hb4 (show (w3.alloc (.cells #[.int .u16 (p : Int), .int .u16 (q : Int)] 41)).cell? ⟨w3.heap.size, 1, none⟩ = some (.int .u16 (q : Int)) from by simp [go_sem])
  have hg4_0 : w.heap.size < w4.heap.size := by omega
  have hg4_1 : w.heap.size + 1 < w4.heap.size := by omega
  have hg4_2 : w1.heap.size < w4.heap.size := by omega
  have hg4_3 : w2.heap.size < w4.heap.size := by omega
  have hg4_4 : w3.heap.size < w4.heap.size := by omega
  have hl4 : w.heap.size ≤ w4.heap.size := by omega
  have hw4 : Hid (Below w.heap.size w w4) := (hw3.out.alloc (by first | omega | (simp; done) | (simp; omega)) _).trans (hb4.mono (by first | omega | (simp; done) | (simp; omega)))
  clear hb4 x0_3 x1_3 y0_3 y1_3 m0_3 m1_3 n0_3 n1_3 hg3_0 hg3_1 hg3_2 hg3_3 hw3
  go_wp2
  go_ret
  exact ⟨rfl, hw4.out⟩

set_option maxRecDepth 100000 in
theorem spanMeets_lifted (os : Os) (started : os.Started) (H : Type) (enc : TypeId × Value → H) :
    ReturnsInHanded {} Try.checked os 6 .any (Rows.spanMeetsSpec.pre6 enc Try.prog Try.f6 Rows.spanMeetsRow.domain false) (Rows.spanMeetsSpec.post enc Try.prog Try.f6 false true false false) := by
  refine returnsInHanded_of_change (C := Try.checked) own started (by kernel_rfl) Try.func6
    (ChangeSpec.witness6 (enc := enc) (C := Try.checked) false ⟨#[], #[.agg #[.int .u16 0, .int .u16 0], .agg #[.int .u16 0, .int .u16 0]], []⟩ 8 (by kernel_rfl) (by kernel_rfl) (by kernel_rfl) (by kernel_rfl)) ?_
  intro W base args ds gs before hval0 hW hcnd _
  have hval : ∀ (j : Nat) t v, Try.f6.params[j]? = some t → args[j]? = some v → Value.okWide Try.prog W .any base t v := hval0
  have hW' := hW
  obtain ⟨p, q, hA0, hV, rfl, hfz, hnd⟩ := hW
  have hA : DataW.TrodAll enc Try.prog W 0 (fun _ => true) true Try.f6.params.toList args.toList ds p := hA0
  rw [Try.params6] at hA hval
  obtain ⟨v0, vs0, d0, ds0, p0, q0, hargs, rfl, rfl, h0, r0⟩ := trodAll_cons hA
  obtain ⟨v1, vs1, d1, ds1, p1, q1, rfl, rfl, rfl, h1, r1⟩ := trodAll_cons r0
  obtain ⟨rfl, rfl, rfl⟩ := trodAll_nil r1
  obtain rfl : args = #[v0, v1] := by cases args; simp_all
  obtain ⟨rfl, rfl⟩ := trodVars_none hV
  obtain ⟨a0, n0, rfl, rfl, rfl, w0, x0⟩ := open_sp (hval 0 41 v0 rfl rfl) h0
  obtain ⟨b0, rfl, t0⟩ := wf_u16 w0
  obtain ⟨c0, rfl, u0⟩ := wf_u16 x0
  obtain ⟨a1, n1, rfl, rfl, rfl, w1, x1⟩ := open_sp (hval 1 41 v1 rfl rfl) h1
  obtain ⟨b1, rfl, t1⟩ := wf_u16 w1
  obtain ⟨c1, rfl, u1⟩ := wf_u16 x1
  clear hA0 hval0
  simp only [List.append_nil] at hW'
  refine (spanMeets_walk b0 c0 t0 u0 b1 c1 t1 u1 W).mono fun e W' ⟨he, bel⟩ => ?_
  subst he
  exact ⟨_, rfl, _, _, _, [], _, [], hW', trodAll_mk1 (shut_bool Try.underlying4 _), (trodAll_cons_mk (shut_sp w0 x0) (trodAll_cons_mk (shut_sp w1 x1) trodAll_mk0)), rfl, bel.frame _, fun h => by cases h⟩

/-- The given statement. -/
theorem spanMeets_holds : Rows.SpanMeetsSaid :=
  OpenClaim.holds_of_wide 6 Try.f6 rfl rfl rfl rfl rfl rfl rfl ⟨rfl, rfl, rfl, rfl, rfl⟩ rfl rfl rfl rfl rfl (by kernel_rfl) Try.func6 (by kernel_rfl)
    (of_decide_eq_true (by kernel_rfl)) (by unfold Func.isWrapper; first | (rw [if_pos (by decide +kernel)]; kernel_rfl) | (rw [if_neg (by decide +kernel)]; exact ⟨rfl, rfl⟩))
    (fun os started H enc _ => spanMeets_lifted os started H enc)
#print axioms spanMeets_holds
end Go.Proofs.Ythmekipdhlipbaa
