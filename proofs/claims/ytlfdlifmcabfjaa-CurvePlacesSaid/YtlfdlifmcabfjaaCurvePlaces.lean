/-
  The law CurvePlaces answers true for every order and any two floats: Place tells the document's place, or its error, and the document's examples are met.
  Conditions: none; the law holds for every input.
-/
import Derived.Test.YtlfdlifmcabfjaaCvH
import Derived.Test.YtlfdlifmcabfjaaCvFr
namespace Go.Proofs.Ytlfdlifmcabfjaa
open Go.ChangeShapes Go.WideShapes Go.ChangeAt Go.RowKit Go.Joins
set_option linter.unusedVariables false
set_option linter.unusedSimpArgs false

theorem curvePlaces_walk (n : Int) (hn : I64 n) (a b : Nat) (w : World) :
    Calls Try.prog 4 #[.int .i64 n, .float .f64 a, .float .f64 b] w fun e w' => e = .returned (.bool true) ∧ Below w.heap.size w w' := by
  obtain ⟨pl, er, A, B⟩ : ∃ (pl er : Int), (∀ W, Calls Try.prog 13 #[.int .i64 n, .complex .f64 a b] W fun e w' => e = .returned (.tuple #[.int .i64 pl, .int .i64 er]) ∧ w' = W) ∧ (∀ W, Calls Try.prog 14 #[.int .i64 n, .float .f64 a, .float .f64 b] W fun e w' => e = .returned (.tuple #[.int .i64 pl, .int .i64 er]) ∧ Below W.heap.size W w') := by
    by_cases ho : n < 1 ∨ 16 < n
    · exact ⟨0, 130, fun W => place_order n a b W ho, fun W => rPlace_order n a b W ho⟩
    · obtain ⟨k, rfl⟩ : ∃ k : Nat, n = (k : Int) := ⟨n.toNat, by omega⟩
      exact ⟨_, _, fun W => place_any k a b W (by omega) (by omega), fun W => rPlace_any k a b W (by omega) (by omega)⟩
  go_enter Try.func4, Try.ntmps4
  go_wp2_with (fail)
  refine (A _).mono ?_
  rintro e w' ⟨rfl, hw⟩; obtain rfl := hw.symm; clear hw
  go_wp2_with (fail)
  refine (B _).mono ?_
  rintro e w1 ⟨rfl, hb1⟩
  replace hb1 : Hid _ := hb1
  go_wp2_with (fail)
  refine (awakeC _).mono ?_
  rintro e w' ⟨rfl, hw⟩; obtain rfl := hw.symm; clear hw
  go_wp2_with (fail)
  go_ret
  exact ⟨rfl, hb1.out⟩

set_option maxRecDepth 100000 in
theorem curvePlaces_lifted (os : Os) (started : os.Started) (H : Type) (enc : TypeId × Value → H) :
    ReturnsInHanded {} Try.checked os 4 .any (Rows.curvePlacesSpec.pre6 enc Try.prog Try.f4 Rows.curvePlacesRow.domain false) (Rows.curvePlacesSpec.post enc Try.prog Try.f4 false true false false) := by
  refine returnsInHanded_of_change (C := Try.checked) own started (by kernel_rfl) Try.func4
    (ChangeSpec.witness6 (enc := enc) (C := Try.checked) false ⟨#[], #[.int .i64 0, .float .f64 0, .float .f64 0], []⟩ 8 (by kernel_rfl) (by kernel_rfl) (by kernel_rfl) (by kernel_rfl)) ?_
  intro W base args ds gs before hval0 hW hcnd _
  have hval : ∀ (j : Nat) t v, Try.f4.params[j]? = some t → args[j]? = some v → Value.okWide Try.prog W .any base t v := hval0
  have hW' := hW
  obtain ⟨p, q, hA0, hV, rfl, hfz, hnd⟩ := hW
  have hA : DataW.TrodAll enc Try.prog W 0 (fun _ => true) true Try.f4.params.toList args.toList ds p := hA0
  rw [Try.params4] at hA hval
  obtain ⟨v0, vs0, d0, ds0, p0, q0, hargs, rfl, rfl, h0, r0⟩ := trodAll_cons hA
  obtain ⟨v1, vs1, d1, ds1, p1, q1, rfl, rfl, rfl, h1, r1⟩ := trodAll_cons r0
  obtain ⟨v2, vs2, d2, ds2, p2, q2, rfl, rfl, rfl, h2, r2⟩ := trodAll_cons r1
  obtain ⟨rfl, rfl, rfl⟩ := trodAll_nil r2
  obtain rfl : args = #[v0, v1, v2] := by cases args; simp_all
  obtain ⟨rfl, rfl⟩ := trodVars_none hV
  have hlt0 : ∀ x ∈ p0, x.block < W.heap.size := fun x hx => by simpa using hW'.lt x (by simp [hx])
  obtain ⟨a0, rfl, _, _, w0⟩ := open_int Try.underlying3 (hval 0 3 v0 rfl rfl) h0
  have hlt1 : ∀ x ∈ p1, x.block < W.heap.size := fun x hx => by simpa using hW'.lt x (by simp [hx])
  obtain ⟨a1, rfl, _, _, w1⟩ := open_float Try.underlying33 (hval 1 33 v1 rfl rfl) h1
  have hlt2 : ∀ x ∈ p2, x.block < W.heap.size := fun x hx => by simpa using hW'.lt x (by simp [hx])
  obtain ⟨a2, rfl, _, _, w2⟩ := open_float Try.underlying33 (hval 2 33 v2 rfl rfl) h2
  clear hA0 hval0
  simp only [List.append_nil] at hW'
  refine (curvePlaces_walk a0 (wf_sgn w0) a1 a2 W ).mono fun e W' ⟨he, bel⟩ => ?_
  subst he
  exact ⟨_, rfl, _, _, _, [], _, [], hW', trodAll_mk1 (shut_bool Try.underlying4 _), (trodAll_cons_mk (Below.trod laidOut (by kernel_rfl) (of_decide_eq_true (by kernel_rfl)) h0 bel hlt0) (trodAll_cons_mk (Below.trod laidOut (by kernel_rfl) (of_decide_eq_true (by kernel_rfl)) h1 bel hlt1) (trodAll_cons_mk (Below.trod laidOut (by kernel_rfl) (of_decide_eq_true (by kernel_rfl)) h2 bel hlt2) trodAll_mk0))), rfl, bel.frame _, fun h => by cases h⟩

/-- The given statement. -/
theorem curvePlaces_holds : Rows.CurvePlacesSaid :=
  OpenClaim.holds_of_wide 4 Try.f4 rfl rfl rfl rfl rfl rfl rfl ⟨rfl, rfl, rfl, rfl, rfl⟩ rfl rfl rfl rfl rfl (by kernel_rfl) Try.func4 (by kernel_rfl)
    (of_decide_eq_true (by kernel_rfl)) (by unfold Func.isWrapper; first | (rw [if_pos (by decide +kernel)]; kernel_rfl) | (rw [if_neg (by decide +kernel)]; exact ⟨rfl, rfl⟩))
    (fun os started H enc _ => curvePlaces_lifted os started H enc)
#print axioms curvePlaces_holds
end Go.Proofs.Ytlfdlifmcabfjaa
