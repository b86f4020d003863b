/-
  For every configuration, table.Check and New answer as the document says, and there is a table just if it may be (P11.1); the examples of the document hold.
  Conditions: none; the law holds for every input.
-/
import Derived.Test.YtlghbcdahnjcpaaTbX
import Derived.Test.YtlghbcdahnjcpaaTbRk
import Derived.Test.YtlghbcdahnjcpaaTbFr
namespace Go.Proofs.Ytlghbcdahnjcpaa
open Go.ChangeShapes Go.WideShapes Go.ChangeAt Go.RowKit Go.Joins
set_option linter.unusedVariables false
set_option linter.unusedSimpArgs false

set_option maxRecDepth 20000 in
set_option maxHeartbeats 4000000 in
theorem tableConfigs_walk (c : Cf) (o : BdC c) (w : World) :
    Calls Try.prog 3 #[.agg #[.int .i64 c.m, .int .i64 c.a, .int .i64 c.p, .int .i64 c.g, .int .i64 c.t, .int .i64 c.b, .int .i64 c.d]] w fun e w' => e = .returned (.bool true) ∧ Below w.heap.size w w' := by
  have hr := fun W => rcheckCC c W
  have hc := fun W => checkCC c o W
  cases h : okC c
  · have hn := fun W => newBad c o h W
    have e : errC c = 110 := by unfold errC; rw [h]; rfl
    rw [e] at hr hc
    clear h o e
    go_enter Try.func3, Try.ntmps3
    go_wp2_with (fail)
    have X1 := bel_a1 w (.cells #[.int .i64 c.m, .int .i64 c.a, .int .i64 c.p, .int .i64 c.g, .int .i64 c.t, .int .i64 c.b, .int .i64 c.d] 24)
    have Nc1 : (w.alloc (.cells #[.int .i64 c.m, .int .i64 c.a, .int .i64 c.p, .int .i64 c.g, .int .i64 c.t, .int .i64 c.b, .int .i64 c.d] 24)).heap[w.heap.size]? = some (.cells #[.int .i64 c.m, .int .i64 c.a, .int .i64 c.p, .int .i64 c.g, .int .i64 c.t, .int .i64 c.b, .int .i64 c.d] 24) := (blk_new w (.cells #[.int .i64 c.m, .int .i64 c.a, .int .i64 c.p, .int .i64 c.g, .int .i64 c.t, .int .i64 c.b, .int .i64 c.d] 24))
    refine (hr _).mono ?_
    rintro e W1 ⟨rfl, hb⟩
    have HB1 : Hid (Below w.heap.size w W1) := bel_step (Below.refl _ _) X1 hb
    have Kc1 : Hid (W1.heap[w.heap.size]? = some (.cells #[.int .i64 c.m, .int .i64 c.a, .int .i64 c.p, .int .i64 c.g, .int .i64 c.t, .int .i64 c.b, .int .i64 c.d] 24)) := blk_on Nc1 hb
    clear X1 hb Nc1
    have x0 := blk_cell Kc1.out (j := 0) rfl
    have x1 := blk_cell Kc1.out (j := 1) rfl
    have x2 := blk_cell Kc1.out (j := 2) rfl
    have x3 := blk_cell Kc1.out (j := 3) rfl
    have x4 := blk_cell Kc1.out (j := 4) rfl
    have x5 := blk_cell Kc1.out (j := 5) rfl
    have x6 := blk_cell Kc1.out (j := 6) rfl
    go_wp2_with (fail)
    clear x0 x1 x2 x3 x4 x5 x6
    have X2 := bel_a0 W1
    refine (hn _).mono ?_
    rintro e W2 ⟨rfl, hb⟩
    have HB2 : Hid (Below w.heap.size w W2) := bel_step (HB1.out) X2 hb
    have Kc2 : Hid (W2.heap[w.heap.size]? = some (.cells #[.int .i64 c.m, .int .i64 c.a, .int .i64 c.p, .int .i64 c.g, .int .i64 c.t, .int .i64 c.b, .int .i64 c.d] 24)) := blk_on (blk_on Kc1.out X2) hb
    clear X2 hb HB1
    try clear Kc1
    have x0 := blk_cell Kc2.out (j := 0) rfl
    have x1 := blk_cell Kc2.out (j := 1) rfl
    have x2 := blk_cell Kc2.out (j := 2) rfl
    have x3 := blk_cell Kc2.out (j := 3) rfl
    have x4 := blk_cell Kc2.out (j := 4) rfl
    have x5 := blk_cell Kc2.out (j := 5) rfl
    have x6 := blk_cell Kc2.out (j := 6) rfl
    go_wp2_with (fail)
    clear x0 x1 x2 x3 x4 x5 x6
    have X3 := bel_a0 W2
    refine (hc _).mono ?_
    rintro e W3 ⟨rfl, hb⟩
    have HB3 : Hid (Below w.heap.size w W3) := bel_step (HB2.out) X3 hb
    have Kc3 : Hid (W3.heap[w.heap.size]? = some (.cells #[.int .i64 c.m, .int .i64 c.a, .int .i64 c.p, .int .i64 c.g, .int .i64 c.t, .int .i64 c.b, .int .i64 c.d] 24)) := blk_on (blk_on Kc2.out X3) hb
    clear X3 hb HB2
    try clear Kc2
    go_wp2_with (fail)
    have X4 := bel_a0 W3
    refine (awakeT _).mono ?_
    rintro e W4 ⟨rfl, hb⟩
    have HB4 : Hid (Below w.heap.size w W4) := bel_step (HB3.out) X4 hb
    have Kc4 : Hid (W4.heap[w.heap.size]? = some (.cells #[.int .i64 c.m, .int .i64 c.a, .int .i64 c.p, .int .i64 c.g, .int .i64 c.t, .int .i64 c.b, .int .i64 c.d] 24)) := blk_on (blk_on Kc3.out X4) hb
    clear X4 hb HB3
    try clear Kc3
    go_wp2_with (fail)
    go_ret
    exact ⟨rfl, HB4.out⟩
  · have hn := fun W => newOk c o h W
    have e : errC c = 0 := by unfold errC; rw [h]; rfl
    rw [e] at hr hc
    clear h o e
    go_enter Try.func3, Try.ntmps3
    go_wp2_with (fail)
    have X1 := bel_a1 w (.cells #[.int .i64 c.m, .int .i64 c.a, .int .i64 c.p, .int .i64 c.g, .int .i64 c.t, .int .i64 c.b, .int .i64 c.d] 24)
    have Nc1 : (w.alloc (.cells #[.int .i64 c.m, .int .i64 c.a, .int .i64 c.p, .int .i64 c.g, .int .i64 c.t, .int .i64 c.b, .int .i64 c.d] 24)).heap[w.heap.size]? = some (.cells #[.int .i64 c.m, .int .i64 c.a, .int .i64 c.p, .int .i64 c.g, .int .i64 c.t, .int .i64 c.b, .int .i64 c.d] 24) := (blk_new w (.cells #[.int .i64 c.m, .int .i64 c.a, .int .i64 c.p, .int .i64 c.g, .int .i64 c.t, .int .i64 c.b, .int .i64 c.d] 24))
    refine (hr _).mono ?_
    rintro e W1 ⟨rfl, hb⟩
    have HB1 : Hid (Below w.heap.size w W1) := bel_step (Below.refl _ _) X1 hb
    have Kc1 : Hid (W1.heap[w.heap.size]? = some (.cells #[.int .i64 c.m, .int .i64 c.a, .int .i64 c.p, .int .i64 c.g, .int .i64 c.t, .int .i64 c.b, .int .i64 c.d] 24)) := blk_on Nc1 hb
    clear X1 hb Nc1
    have x0 := blk_cell Kc1.out (j := 0) rfl
    have x1 := blk_cell Kc1.out (j := 1) rfl
    have x2 := blk_cell Kc1.out (j := 2) rfl
    have x3 := blk_cell Kc1.out (j := 3) rfl
    have x4 := blk_cell Kc1.out (j := 4) rfl
    have x5 := blk_cell Kc1.out (j := 5) rfl
    have x6 := blk_cell Kc1.out (j := 6) rfl
    go_wp2_with (fail)
    clear x0 x1 x2 x3 x4 x5 x6
    have X2 := bel_a0 W1
    refine (hn _).mono ?_
    rintro e W2 ⟨t, rfl, hT, ht, hb⟩
    have HB2 : Hid (Below w.heap.size w W2) := bel_step (HB1.out) X2 hb
    have HT2 : Hid (Tab W2 t (.slice none 0 0) c.m c.a []) := hT
    have Htw : Hid (w.heap.size ≤ t) := Nat.le_trans (bel_step (HB1.out) X2 (Below.refl _ _)).size ht
    have HG2 : Hid (∀ k, (Value.slice none 0 0).ownBlock = some k → w.heap.size ≤ k) := fun k e => by cases e
    have Kc2 : Hid (Kb W2 t (.slice none 0 0) (w.heap.size) (.cells #[.int .i64 c.m, .int .i64 c.a, .int .i64 c.p, .int .i64 c.g, .int .i64 c.t, .int .i64 c.b, .int .i64 c.d] 24)) := ⟨blk_on (blk_on Kc1.out X2) hb, by have := blk_lt (blk_on Kc1.out X2); omega, fun e => by cases e⟩
    clear X2 hb hT ht HB1
    try clear Kc1
    have x0 := blk_cell Kc2.out.1 (j := 0) rfl
    have x1 := blk_cell Kc2.out.1 (j := 1) rfl
    have x2 := blk_cell Kc2.out.1 (j := 2) rfl
    have x3 := blk_cell Kc2.out.1 (j := 3) rfl
    have x4 := blk_cell Kc2.out.1 (j := 4) rfl
    have x5 := blk_cell Kc2.out.1 (j := 5) rfl
    have x6 := blk_cell Kc2.out.1 (j := 6) rfl
    go_wp2_with (fail)
    clear x0 x1 x2 x3 x4 x5 x6
    have X3 := bel_a0 W2
    have T3 := HT2.out.on X3
    refine (hc _).mono ?_
    rintro e W3 ⟨rfl, hb⟩
    have HB3 : Hid (Below w.heap.size w W3) := bel_step (HB2.out) X3 hb
    have HT3 : Hid (Tab W3 t (.slice none 0 0) c.m c.a []) := T3.on hb
    have Kc3 : Hid (Kb W3 t (.slice none 0 0) (w.heap.size) (.cells #[.int .i64 c.m, .int .i64 c.a, .int .i64 c.p, .int .i64 c.g, .int .i64 c.t, .int .i64 c.b, .int .i64 c.d] 24)) := (Kc2.out.on X3).on hb
    clear X3 hb T3 HB2
    clear HT2
    try clear Kc2
    go_wp2_with (fail)
    have X4 := bel_a0 W3
    have T4 := HT3.out.on X4
    refine (awakeT _).mono ?_
    rintro e W4 ⟨rfl, hb⟩
    have HB4 : Hid (Below w.heap.size w W4) := bel_step (HB3.out) X4 hb
    have HT4 : Hid (Tab W4 t (.slice none 0 0) c.m c.a []) := T4.on hb
    have Kc4 : Hid (Kb W4 t (.slice none 0 0) (w.heap.size) (.cells #[.int .i64 c.m, .int .i64 c.a, .int .i64 c.p, .int .i64 c.g, .int .i64 c.t, .int .i64 c.b, .int .i64 c.d] 24)) := (Kc3.out.on X4).on hb
    clear X4 hb T4 HB3
    clear HT3
    try clear Kc3
    go_wp2_with (fail)
    go_ret
    exact ⟨rfl, HB4.out⟩

set_option maxRecDepth 100000 in
theorem tableConfigs_lifted (os : Os) (started : os.Started) (H : Type) (enc : TypeId × Value → H) :
    ReturnsInHanded {} Try.checked os 3 .any (Rows.tableConfigsSpec.pre6 enc Try.prog Try.f3 Rows.tableConfigsRow.domain false) (Rows.tableConfigsSpec.post enc Try.prog Try.f3 false true false false) := by
  refine returnsInHanded_of_change (C := Try.checked) own started (by kernel_rfl) Try.func3
    (ChangeSpec.witness6 (enc := enc) (C := Try.checked) false ⟨#[], #[.agg #[.int .i64 0, .int .i64 0, .int .i64 0, .int .i64 0, .int .i64 0, .int .i64 0, .int .i64 0]], []⟩ 8 (by kernel_rfl) (by kernel_rfl) (by kernel_rfl) (by kernel_rfl)) ?_
  intro W base args ds gs before hval0 hW hcnd _
  have hval : ∀ (j : Nat) t v, Try.f3.params[j]? = some t → args[j]? = some v → Value.okWide Try.prog W .any base t v := hval0
  have hW' := hW
  obtain ⟨p, q, hA0, hV, rfl, hfz, hnd⟩ := hW
  have hA : DataW.TrodAll enc Try.prog W 0 (fun _ => true) true Try.f3.params.toList args.toList ds p := hA0
  rw [Try.params3] at hA hval
  obtain ⟨v0, vs0, d0, ds0, p0, q0, hargs, rfl, rfl, h0, r0⟩ := trodAll_cons hA
  obtain ⟨rfl, rfl, rfl⟩ := trodAll_nil r0
  obtain rfl : args = #[v0] := by cases args; simp_all
  obtain ⟨rfl, rfl⟩ := trodVars_none hV
  have hlt0 : ∀ x ∈ p0, x.block < W.heap.size := fun x hx => by simpa using hW'.lt x (by simp [hx])
  obtain ⟨g0, rfl, o0⟩ := open_cf (hval 0 24 v0 rfl rfl) h0
  clear hA0 hval0
  simp only [List.append_nil] at hW'
  refine (tableConfigs_walk g0 o0 W ).mono fun e W' ⟨he, bel⟩ => ?_
  subst he
  exact ⟨_, rfl, _, _, _, [], _, [], hW', trodAll_mk1 (shut_bool Try.underlying4 _), (trodAll_cons_mk (Below.trod laidOut (by kernel_rfl) (of_decide_eq_true (by kernel_rfl)) h0 bel hlt0) trodAll_mk0), rfl, bel.frame _, fun h => by cases h⟩

/-- The given statement. -/
theorem tableConfigs_holds : Rows.TableConfigsSaid :=
  OpenClaim.holds_of_wide 3 Try.f3 rfl rfl rfl rfl rfl rfl rfl ⟨rfl, rfl, rfl, rfl, rfl⟩ rfl rfl rfl rfl rfl (by kernel_rfl) Try.func3 (by kernel_rfl)
    (of_decide_eq_true (by kernel_rfl)) (by unfold Func.isWrapper; first | (rw [if_pos (by decide +kernel)]; kernel_rfl) | (rw [if_neg (by decide +kernel)]; exact ⟨rfl, rfl⟩))
    (fun os started H enc _ => tableConfigs_lifted os started H enc)
#print axioms tableConfigs_holds
end Go.Proofs.Ytlghbcdahnjcpaa
