/-
  For every two spans, in both orders, span.Compare answers as the document says, and the examples of the document hold.
  Conditions: none; the law holds for every input.
-/
import Derived.Test.YthmekipdhlipbabSpAw
import Derived.Test.YthmekipdhlipbabSpFrame
namespace Go.Proofs.Ythmekipdhlipbab
open Go.ChangeShapes Go.WideShapes Go.ChangeAt Go.RowKit Go.Joins
set_option linter.unusedVariables false
set_option linter.unusedSimpArgs false

theorem cmpI_turn (x y : Nat × Nat) : cmpI y x = - cmpI x y := by
  unfold cmpI
  by_cases h : x = y
  · subst h; simp
  · have h' : ¬ y = x := fun e => h e.symm
    rw [if_neg h, if_neg h']
    have hn : ¬ (x.1 = y.1 ∧ x.2 = y.2) := fun e => h (Prod.ext e.1 e.2)
    by_cases h2 : x.1 < y.1 ∨ (x.1 = y.1 ∧ x.2 < y.2)
    · rw [if_pos h2, if_neg (by omega)]; rfl
    · rw [if_neg h2, if_pos (by omega)]
theorem cmpI_bd (x y : Nat × Nat) : -1 ≤ cmpI x y ∧ cmpI x y ≤ 1 := by
  unfold cmpI; split
  · omega
  · split <;> omega
set_option maxHeartbeats 1000000 in
theorem spanCompares_walk (a b : Nat) (ha : a < 65536) (hb : b < 65536) (c d : Nat) (hc : c < 65536) (hd : d < 65536) (w : World) :
    Calls Try.prog 4 #[.agg #[.int .u16 a, .int .u16 b], .agg #[.int .u16 c, .int .u16 d]] w fun e w' => e = .returned (.bool true) ∧ Below w.heap.size w w' := by
  have hbd := cmpI_bd (a, b) (c, d)
  have ht := cmpI_turn (a, b) (c, d)
  have c1 := fun W => rcmpB (a, b) (c, d) W
  have c2 := fun W => cmpB (a, b) (c, d) W
  have c3 := fun W => cmpB (c, d) (a, b) W
  rw [ht] at c3
  simp only at c1 c2 c3
  generalize cmpI (a, b) (c, d) = n at c1 c2 c3 hbd
  clear ht
  go_enter Try.func4, Try.ntmps4
  go_wp2_with (fail)
  refine (c1 _).mono ?_
  rintro e w1 ⟨rfl, hb1⟩
  have hz1 := hb1.size
  (try simp at hz1)
  have x0_1 : w1.cell? ⟨w.heap.size, 0, none⟩ = some (.int .u16 (a : Int)) := cell_on hb1 (show ((w.alloc (.cells #[.int .u16 (a : Int), .int .u16 (b : Int)] 31)).alloc (.cells #[.int .u16 (c : Int), .int .u16 (d : Int)] 31)).cell? ⟨w.heap.size, 0, none⟩ = some (.int .u16 (a : Int)) from by simp [go_sem])
  have x1_1 : w1.cell? ⟨w.heap.size, 1, none⟩ = some (.int .u16 (b : Int)) := cell_on hb1 (show ((w.alloc (.cells #[.int .u16 (a : Int), .int .u16 (b : Int)] 31)).alloc (.cells #[.int .u16 (c : Int), .int .u16 (d : Int)] 31)).cell? ⟨w.heap.size, 1, none⟩ = some (.int .u16 (b : Int)) from by simp [go_sem])
  have y0_1 : w1.cell? ⟨w.heap.size + 1, 0, none⟩ = some (.int .u16 (c : Int)) := cell_on hb1 (show ((w.alloc (.cells #[.int .u16 (a : Int), .int .u16 (b : Int)] 31)).alloc (.cells #[.int .u16 (c : Int), .int .u16 (d : Int)] 31)).cell? ⟨w.heap.size + 1, 0, none⟩ = some (.int .u16 (c : Int)) from by simp [go_sem])
  have y1_1 : w1.cell? ⟨w.heap.size + 1, 1, none⟩ = some (.int .u16 (d : Int)) := cell_on hb1 (show ((w.alloc (.cells #[.int .u16 (a : Int), .int .u16 (b : Int)] 31)).alloc (.cells #[.int .u16 (c : Int), .int .u16 (d : Int)] 31)).cell? ⟨w.heap.size + 1, 1, none⟩ = some (.int .u16 (d : Int)) from by simp [go_sem])
  have hl1 : w.heap.size ≤ w1.heap.size := by omega
  have hw1 : Hid (Below w.heap.size w w1) := (((Below.refl _ _).alloc (by first | omega | (simp; done) | (simp; omega)) _).alloc (by first | omega | (simp; done) | (simp; omega)) _).trans (hb1.mono (by first | omega | (simp; done) | (simp; omega)))
  clear hb1
  go_wp2_with (fail)
  refine (awakeS _).mono ?_
  rintro e w2 ⟨rfl, hb2⟩
  have hz2 := hb2.size
  (try simp at hz2)
  have x0_2 : w2.cell? ⟨w.heap.size, 0, none⟩ = some (.int .u16 (a : Int)) := cell_on hb2 x0_1
  have x1_2 : w2.cell? ⟨w.heap.size, 1, none⟩ = some (.int .u16 (b : Int)) := cell_on hb2 x1_1
  have y0_2 : w2.cell? ⟨w.heap.size + 1, 0, none⟩ = some (.int .u16 (c : Int)) := cell_on hb2 y0_1
  have y1_2 : w2.cell? ⟨w.heap.size + 1, 1, none⟩ = some (.int .u16 (d : Int)) := cell_on hb2 y1_1
  have hl2 : w.heap.size ≤ w2.heap.size := by omega
  have hw2 : Hid (Below w.heap.size w w2) := hw1.out.trans (hb2.mono (by first | omega | (simp; done) | (simp; omega)))
  clear hb2 x0_1 x1_1 y0_1 y1_1 hw1
  go_wp2_with (fail)
  refine (c2 _).mono ?_
  rintro e w3 ⟨rfl, hb3⟩
  have hz3 := hb3.size
  (try simp at hz3)
  have x0_3 : w3.cell? ⟨w.heap.size, 0, none⟩ = some (.int .u16 (a : Int)) := cell_on hb3 x0_2
  have x1_3 : w3.cell? ⟨w.heap.size, 1, none⟩ = some (.int .u16 (b : Int)) := cell_on hb3 x1_2
  have y0_3 : w3.cell? ⟨w.heap.size + 1, 0, none⟩ = some (.int .u16 (c : Int)) := cell_on hb3 y0_2
  have y1_3 : w3.cell? ⟨w.heap.size + 1, 1, none⟩ = some (.int .u16 (d : Int)) := cell_on hb3 y1_2
  have hl3 : w.heap.size ≤ w3.heap.size := by omega
  have hw3 : Hid (Below w.heap.size w w3) := hw2.out.trans (hb3.mono (by first | omega | (simp; done) | (simp; omega)))
  clear hb3 x0_2 x1_2 y0_2 y1_2 hw2
  go_wp2_with (fail)
  refine (c3 _).mono ?_
  rintro e w4 ⟨rfl, hb4⟩
  have hz4 := hb4.size
  (try simp at hz4)
  have x0_4 : w4.cell? ⟨w.heap.size, 0, none⟩ = some (.int .u16 (a : Int)) := cell_on hb4 x0_3
  have x1_4 : w4.cell? ⟨w.heap.size, 1, none⟩ = some (.int .u16 (b : Int)) := cell_on hb4 x1_3
  have y0_4 : w4.cell? ⟨w.heap.size + 1, 0, none⟩ = some (.int .u16 (c : Int)) := cell_on hb4 y0_3
  have y1_4 : w4.cell? ⟨w.heap.size + 1, 1, none⟩ = some (.int .u16 (d : Int)) := cell_on hb4 y1_3
  have hl4 : w.heap.size ≤ w4.heap.size := by omega
  have hw4 : Hid (Below w.heap.size w w4) := hw3.out.trans (hb4.mono (by first | omega | (simp; done) | (simp; omega)))
  clear hb4 x0_3 x1_3 y0_3 y1_3 hw3
  go_wp2
  go_ret
  exact ⟨rfl, hw4.out⟩

set_option maxRecDepth 100000 in
theorem spanCompares_lifted (os : Os) (started : os.Started) (H : Type) (enc : TypeId × Value → H) :
    ReturnsInHanded {} Try.checked os 4 .any (Rows.spanComparesSpec.pre6 enc Try.prog Try.f4 Rows.spanComparesRow.domain false) (Rows.spanComparesSpec.post enc Try.prog Try.f4 false true false false) := by
  refine returnsInHanded_of_change (C := Try.checked) own started (by kernel_rfl) Try.func4
    (ChangeSpec.witness6 (enc := enc) (C := Try.checked) false ⟨#[], #[.agg #[.int .u16 0, .int .u16 0], .agg #[.int .u16 0, .int .u16 0]], []⟩ 8 (by kernel_rfl) (by kernel_rfl) (by kernel_rfl) (by kernel_rfl)) ?_
  intro W base args ds gs before hval0 hW hcnd _
  have hval : ∀ (j : Nat) t v, Try.f4.params[j]? = some t → args[j]? = some v → Value.okWide Try.prog W .any base t v := hval0
  have hW' := hW
  obtain ⟨p, q, hA0, hV, rfl, hfz, hnd⟩ := hW
  have hA : DataW.TrodAll enc Try.prog W 0 (fun _ => true) true Try.f4.params.toList args.toList ds p := hA0
  rw [Try.params4] at hA hval
  obtain ⟨v0, vs0, d0, ds0, p0, q0, hargs, rfl, rfl, h0, r0⟩ := trodAll_cons hA
  obtain ⟨v1, vs1, d1, ds1, p1, q1, rfl, rfl, rfl, h1, r1⟩ := trodAll_cons r0
  obtain ⟨rfl, rfl, rfl⟩ := trodAll_nil r1
  obtain rfl : args = #[v0, v1] := by cases args; simp_all
  obtain ⟨rfl, rfl⟩ := trodVars_none hV
  obtain ⟨a0, n0, rfl, rfl, rfl, w0, x0⟩ := open_sp (hval 0 31 v0 rfl rfl) h0
  obtain ⟨b0, rfl, t0⟩ := wf_u16 w0
  obtain ⟨c0, rfl, u0⟩ := wf_u16 x0
  obtain ⟨a1, n1, rfl, rfl, rfl, w1, x1⟩ := open_sp (hval 1 31 v1 rfl rfl) h1
  obtain ⟨b1, rfl, t1⟩ := wf_u16 w1
  obtain ⟨c1, rfl, u1⟩ := wf_u16 x1
  clear hA0 hval0
  simp only [List.append_nil] at hW'
  refine (spanCompares_walk b0 c0 t0 u0 b1 c1 t1 u1 W).mono fun e W' ⟨he, bel⟩ => ?_
  subst he
  exact ⟨_, rfl, _, _, _, [], _, [], hW', trodAll_mk1 (shut_bool Try.underlying4 _), (trodAll_cons_mk (shut_sp w0 x0) (trodAll_cons_mk (shut_sp w1 x1) trodAll_mk0)), rfl, bel.frame _, fun h => by cases h⟩

/-- The given statement. -/
theorem spanCompares_holds : Rows.SpanComparesSaid :=
  OpenClaim.holds_of_wide 4 Try.f4 rfl rfl rfl rfl rfl rfl rfl ⟨rfl, rfl, rfl, rfl, rfl⟩ rfl rfl rfl rfl rfl (by kernel_rfl) Try.func4 (by kernel_rfl)
    (of_decide_eq_true (by kernel_rfl)) (by unfold Func.isWrapper; first | (rw [if_pos (by decide +kernel)]; kernel_rfl) | (rw [if_neg (by decide +kernel)]; exact ⟨rfl, rfl⟩))
    (fun os started H enc _ => spanCompares_lifted os started H enc)
#print axioms spanCompares_holds
end Go.Proofs.Ythmekipdhlipbab
