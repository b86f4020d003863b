/-
  The law CurveRound answers true for every order and any two numbers: the point of a point's place is the point, and the document's examples are met.
  Conditions: none; the law holds for every input.
-/
import Derived.Test.YtlfdlifmcabfjabCvH
import Derived.Test.YtlfdlifmcabfjabCvFr
namespace Go.Proofs.Ytlfdlifmcabfjab
open Go.ChangeShapes Go.WideShapes Go.ChangeAt Go.RowKit Go.Joins
set_option linter.unusedVariables false
set_option linter.unusedSimpArgs false

theorem ord_yes {a b : Nat} {x y : Int} (h1 : Wd a x) (h2 : Wd b y) (h : x = y) : (FloatKind.f64.format.order a b == some .eq) = true := by
  rw [order_wd h1 h2, compare_eq]; exact decide_eq_true h
theorem plcA_ok {n a b : Nat} {x y : Int} (ha : wh n a = some x) (hb : wh n b = some y) : plcA n a b = (plc n (x, y), 0) := by unfold plcA; rw [ha, hb]
theorem curveRound_no (n x y er : Int) (w : World) (he : ¬ er = 0) (A : ∀ W, Calls Try.prog 4 #[.int .i64 n, .complex .f64 (FL x) (FL y)] W fun e w' => e = .returned (.tuple #[.int .i64 0, .int .i64 er]) ∧ w' = W) :
    Calls Try.prog 3 #[.int .i64 n, .int .i64 x, .int .i64 y] w fun e w' => e = .returned (.bool true) ∧ Below w.heap.size w w' := by
  go_enter Try.func3, Try.ntmps3
  go_wp2_with (fail)
  refine (A _).mono ?_
  rintro e w' ⟨rfl, hw⟩; obtain rfl := hw.symm; clear hw
  go_wp2_with (fail)
  refine (awakeC _).mono ?_
  rintro e w' ⟨rfl, hw⟩; obtain rfl := hw.symm; clear hw
  go_wp2_with (fail)
  go_ret
  exact ⟨rfl, Below.refl _ _⟩
theorem curveRound_walk (n : Int) (hn : I64 n) (x : Int) (hx : I64 x) (y : Int) (hy : I64 y) (w : World) :
    Calls Try.prog 3 #[.int .i64 n, .int .i64 x, .int .i64 y] w fun e w' => e = .returned (.bool true) ∧ Below w.heap.size w w' := by
  by_cases ho : n < 1 ∨ 16 < n
  · exact curveRound_no n x y 130 w (by omega) (fun W => place_order n _ _ W ho)
  · obtain ⟨k, rfl⟩ : ∃ k : Nat, n = (k : Int) := ⟨n.toNat, by omega⟩
    have h1 : 1 ≤ k := by omega
    have h2 : k ≤ 16 := by omega
    have A := fun W => place_any k (FL x) (FL y) W h1 h2
    cases ha : wh k (FL x) with
    | none =>
      have e : plcA k (FL x) (FL y) = (0, 131) := by unfold plcA; rw [ha]
      rw [e] at A
      exact curveRound_no _ x y 131 w (by omega) A
    | some u =>
      cases hb : wh k (FL y) with
      | none =>
        have e : plcA k (FL x) (FL y) = (0, 131) := by unfold plcA; rw [ha, hb]
        rw [e] at A
        exact curveRound_no _ x y 131 w (by omega) A
      | some v =>
        rw [plcA_ok ha hb] at A
        obtain ⟨u0, u1, uw⟩ := wh_some h2 ha
        obtain ⟨v0, v1, vw⟩ := wh_some h2 hb
        have sq : InSq k (u, v) := ⟨u0, u1, v0, v1⟩
        have rg := plc_rng k _ sq
        have B := fun W => at_ok k (plc k (u, v)) W h1 h2 rg.1 rg.2
        rw [hil_plc k _ sq] at B
        have hp := pow_small h2
        have o1 : (FloatKind.f64.format.order (FL u) (floatOfInt .f64 x) == some .eq) = true := ord_yes (wd_FL (n := u) (by omega)) uw rfl
        have o2 : (FloatKind.f64.format.order (FL v) (floatOfInt .f64 y) == some .eq) = true := ord_yes (wd_FL (n := v) (by omega)) vw rfl
        simp only at A B
        generalize plc k (u, v) = r at *
        clear ha hb sq rg uw vw hp u0 u1 v0 v1 ho hn hx hy
        go_enter Try.func3, Try.ntmps3
        go_wp2_with (fail)
        refine (A _).mono ?_
        rintro e w' ⟨rfl, hw⟩; obtain rfl := hw.symm; clear hw
        go_wp2_with (fail)
        refine (B _).mono ?_
        rintro e w' ⟨rfl, hw⟩; obtain rfl := hw.symm; clear hw
        go_wp2_with (fail)
        refine (awakeC _).mono ?_
        rintro e w' ⟨rfl, hw⟩; obtain rfl := hw.symm; clear hw
        go_wp2_with (fail)
        go_ret
        exact ⟨rfl, Below.refl _ _⟩

set_option maxRecDepth 100000 in
theorem curveRound_lifted (os : Os) (started : os.Started) (H : Type) (enc : TypeId × Value → H) :
    ReturnsInHanded {} Try.checked os 3 .any (Rows.curveRoundSpec.pre6 enc Try.prog Try.f3 Rows.curveRoundRow.domain false) (Rows.curveRoundSpec.post enc Try.prog Try.f3 false true false false) := by
  refine returnsInHanded_of_change (C := Try.checked) own started (by kernel_rfl) Try.func3
    (ChangeSpec.witness6 (enc := enc) (C := Try.checked) false ⟨#[], #[.int .i64 0, .int .i64 0, .int .i64 0], []⟩ 8 (by kernel_rfl) (by kernel_rfl) (by kernel_rfl) (by kernel_rfl)) ?_
  intro W base args ds gs before hval0 hW hcnd _
  have hval : ∀ (j : Nat) t v, Try.f3.params[j]? = some t → args[j]? = some v → Value.okWide Try.prog W .any base t v := hval0
  have hW' := hW
  obtain ⟨p, q, hA0, hV, rfl, hfz, hnd⟩ := hW
  have hA : DataW.TrodAll enc Try.prog W 0 (fun _ => true) true Try.f3.params.toList args.toList ds p := hA0
  rw [Try.params3] at hA hval
  obtain ⟨v0, vs0, d0, ds0, p0, q0, hargs, rfl, rfl, h0, r0⟩ := trodAll_cons hA
  obtain ⟨v1, vs1, d1, ds1, p1, q1, rfl, rfl, rfl, h1, r1⟩ := trodAll_cons r0
  obtain ⟨v2, vs2, d2, ds2, p2, q2, rfl, rfl, rfl, h2, r2⟩ := trodAll_cons r1
  obtain ⟨rfl, rfl, rfl⟩ := trodAll_nil r2
  obtain rfl : args = #[v0, v1, v2] := by cases args; simp_all
  obtain ⟨rfl, rfl⟩ := trodVars_none hV
  have hlt0 : ∀ x ∈ p0, x.block < W.heap.size := fun x hx => by simpa using hW'.lt x (by simp [hx])
  obtain ⟨a0, rfl, _, _, w0⟩ := open_int Try.underlying3 (hval 0 3 v0 rfl rfl) h0
  have hlt1 : ∀ x ∈ p1, x.block < W.heap.size := fun x hx => by simpa using hW'.lt x (by simp [hx])
  obtain ⟨a1, rfl, _, _, w1⟩ := open_int Try.underlying3 (hval 1 3 v1 rfl rfl) h1
  have hlt2 : ∀ x ∈ p2, x.block < W.heap.size := fun x hx => by simpa using hW'.lt x (by simp [hx])
  obtain ⟨a2, rfl, _, _, w2⟩ := open_int Try.underlying3 (hval 2 3 v2 rfl rfl) h2
  clear hA0 hval0
  simp only [List.append_nil] at hW'
  refine (curveRound_walk a0 (wf_sgn w0) a1 (wf_sgn w1) a2 (wf_sgn w2) W ).mono fun e W' ⟨he, bel⟩ => ?_
  subst he
  exact ⟨_, rfl, _, _, _, [], _, [], hW', trodAll_mk1 (shut_bool Try.underlying4 _), (trodAll_cons_mk (Below.trod laidOut (by kernel_rfl) (of_decide_eq_true (by kernel_rfl)) h0 bel hlt0) (trodAll_cons_mk (Below.trod laidOut (by kernel_rfl) (of_decide_eq_true (by kernel_rfl)) h1 bel hlt1) (trodAll_cons_mk (Below.trod laidOut (by kernel_rfl) (of_decide_eq_true (by kernel_rfl)) h2 bel hlt2) trodAll_mk0))), rfl, bel.frame _, fun h => by cases h⟩

/-- The given statement. -/
theorem curveRound_holds : Rows.CurveRoundSaid :=
  OpenClaim.holds_of_wide 3 Try.f3 rfl rfl rfl rfl rfl rfl rfl ⟨rfl, rfl, rfl, rfl, rfl⟩ rfl rfl rfl rfl rfl (by kernel_rfl) Try.func3 (by kernel_rfl)
    (of_decide_eq_true (by kernel_rfl)) (by unfold Func.isWrapper; first | (rw [if_pos (by decide +kernel)]; kernel_rfl) | (rw [if_neg (by decide +kernel)]; exact ⟨rfl, rfl⟩))
    (fun os started H enc _ => curveRound_lifted os started H enc)
#print axioms curveRound_holds
end Go.Proofs.Ytlfdlifmcabfjab
