/-
  The law CurveAt answers true for every order and place: At tells the document's point, or its error, and the document's examples are met.
  Conditions: none; the law holds for every input.
-/
import Derived.Test.YtlfdlifmcabfjaaCvH
import Derived.Test.YtlfdlifmcabfjaaCvFr
namespace Go.Proofs.Ytlfdlifmcabfjaa
open Go.ChangeShapes Go.WideShapes Go.ChangeAt Go.RowKit Go.Joins
set_option linter.unusedVariables false
set_option linter.unusedSimpArgs false

theorem ord_yes {a b c d : Nat} {x y : Int} (h1 : Wd a x) (h2 : Wd b y) (h : x = y) : (FloatKind.f64.format.order a b == some .eq) = true := by
  rw [order_wd h1 h2, compare_eq]; exact decide_eq_true h
theorem curveAt_walk (n : Int) (hn : I64 n) (p : Int) (hp : I64 p) (w : World) :
    Calls Try.prog 3 #[.int .i64 n, .int .i64 p] w fun e w' => e = .returned (.bool true) ∧ Below w.heap.size w w' := by
  obtain ⟨hp1, hp2⟩ := hp
  obtain ⟨er, xy, g, A, B, hx⟩ : ∃ (er : Int) (xy : Int × Int) (g : InSq 16 xy), (∀ W, Calls Try.prog 9 #[.int .i64 n, .int .i64 p] W fun e w' => e = .returned (.tuple #[CX xy.1 xy.2, .int .i64 er]) ∧ w' = W) ∧ (∀ W, Calls Try.prog 10 #[.int .i64 n, .int .i64 p] W fun e w' => e = .returned (.tuple #[.agg #[.int .i64 xy.1, .int .i64 xy.2], .int .i64 er]) ∧ Below W.heap.size W w') ∧ True := by
    have z0 : CX (0, 0).1 (0, 0).2 = .complex .f64 0 0 := by rw [← fl0]
    by_cases ho : n < 1 ∨ 16 < n
    · refine ⟨130, (0, 0), by simp [InSq], fun W => ?_, fun W => rAt_order n p W ho, trivial⟩
      rw [z0]; exact at_order n p W ho
    · obtain ⟨k, rfl⟩ : ∃ k : Nat, n = (k : Int) := ⟨n.toNat, by omega⟩
      by_cases h0 : p < 0
      · refine ⟨131, (0, 0), by simp [InSq], fun W => ?_, fun W => rAt_no k p W (by omega) (by omega) (.inl h0), trivial⟩
        rw [z0]; exact at_below k p W (by omega) (by omega) h0
      · by_cases h1 : p < 4 ^ k
        · refine ⟨0, hil k p, ?_, fun W => at_ok k p W (by omega) (by omega) (by omega) h1, fun W => rAt_ok k p W (by omega) (by omega) (by omega) h1, trivial⟩
          have := hil_sq k p (by omega) h1
          have hk := pow_le16 (k := k) (by omega)
          obtain ⟨a, b, c, d⟩ := this
          exact ⟨a, by show _ < (65536 : Int); omega, c, by show _ < (65536 : Int); omega⟩
        · refine ⟨131, (0, 0), by simp [InSq], fun W => ?_, fun W => rAt_no k p W (by omega) (by omega) (.inr (by omega)), trivial⟩
          rw [z0]; exact at_above k p W (by omega) (by omega) (by omega) hp2
  obtain ⟨x, y⟩ := xy
  obtain ⟨g1, g2, g3, g4⟩ := g
  simp only at g1 g2 g3 g4 A B
  have hX : Wd (FL x) x := wd_FL (by omega)
  have hY : Wd (FL y) y := wd_FL (by omega)
  have o1 := ord_yes (c := 0) (d := 0) hX hX rfl
  have o2 := ord_yes (c := 0) (d := 0) hY hY rfl
  clear hX hY g1 g2 g3 g4 hx
  go_enter Try.func3, Try.ntmps3
  go_wp2_with (fail)
  refine (A _).mono ?_
  rintro e w' ⟨rfl, hw⟩; obtain rfl := hw.symm; clear hw
  go_wp2_with (fail)
  refine (B _).mono ?_
  rintro e w1 ⟨rfl, hb1⟩
  replace hb1 : Hid _ := hb1
  go_wp2_with (fail)
  refine (awakeC _).mono ?_
  rintro e w' ⟨rfl, hw⟩; obtain rfl := hw.symm; clear hw
  go_wp2_with (fail)
  refine (number_any _ _ _).mono ?_
  rintro e w2 ⟨rfl, hb2⟩
  replace hb2 : Hid _ := hb2
  go_wp2_with (fail)
  go_ret
  refine ⟨rfl, ?_⟩
  have h1 := hb1.out
  have h2 := hb2.out
  have h3 := h1.size
  (repeat (first | assumption | exact Below.refl _ _ | refine Below.drew ?_ | refine bel_drewN ?_ _ | refine Below.setCell ?_ (by first | omega | (simp; done) | (simp; omega)) _ | refine Below.alloc ?_ (by first | omega | (simp; done) | (simp; omega)) _ | refine bel_of ?_ (by assumption)))

set_option maxRecDepth 100000 in
theorem curveAt_lifted (os : Os) (started : os.Started) (H : Type) (enc : TypeId × Value → H) :
    ReturnsInHanded {} Try.checked os 3 .any (Rows.curveAtSpec.pre6 enc Try.prog Try.f3 Rows.curveAtRow.domain false) (Rows.curveAtSpec.post enc Try.prog Try.f3 false true false false) := by
  refine returnsInHanded_of_change (C := Try.checked) own started (by kernel_rfl) Try.func3
    (ChangeSpec.witness6 (enc := enc) (C := Try.checked) false ⟨#[], #[.int .i64 0, .int .i64 0], []⟩ 8 (by kernel_rfl) (by kernel_rfl) (by kernel_rfl) (by kernel_rfl)) ?_
  intro W base args ds gs before hval0 hW hcnd _
  have hval : ∀ (j : Nat) t v, Try.f3.params[j]? = some t → args[j]? = some v → Value.okWide Try.prog W .any base t v := hval0
  have hW' := hW
  obtain ⟨p, q, hA0, hV, rfl, hfz, hnd⟩ := hW
  have hA : DataW.TrodAll enc Try.prog W 0 (fun _ => true) true Try.f3.params.toList args.toList ds p := hA0
  rw [Try.params3] at hA hval
  obtain ⟨v0, vs0, d0, ds0, p0, q0, hargs, rfl, rfl, h0, r0⟩ := trodAll_cons hA
  obtain ⟨v1, vs1, d1, ds1, p1, q1, rfl, rfl, rfl, h1, r1⟩ := trodAll_cons r0
  obtain ⟨rfl, rfl, rfl⟩ := trodAll_nil r1
  obtain rfl : args = #[v0, v1] := by cases args; simp_all
  obtain ⟨rfl, rfl⟩ := trodVars_none hV
  have hlt0 : ∀ x ∈ p0, x.block < W.heap.size := fun x hx => by simpa using hW'.lt x (by simp [hx])
  obtain ⟨a0, rfl, _, _, w0⟩ := open_int Try.underlying3 (hval 0 3 v0 rfl rfl) h0
  have hlt1 : ∀ x ∈ p1, x.block < W.heap.size := fun x hx => by simpa using hW'.lt x (by simp [hx])
  obtain ⟨a1, rfl, _, _, w1⟩ := open_int Try.underlying3 (hval 1 3 v1 rfl rfl) h1
  clear hA0 hval0
  simp only [List.append_nil] at hW'
  refine (curveAt_walk a0 (wf_sgn w0) a1 (wf_sgn w1) W ).mono fun e W' ⟨he, bel⟩ => ?_
  subst he
  exact ⟨_, rfl, _, _, _, [], _, [], hW', trodAll_mk1 (shut_bool Try.underlying4 _), (trodAll_cons_mk (Below.trod laidOut (by kernel_rfl) (of_decide_eq_true (by kernel_rfl)) h0 bel hlt0) (trodAll_cons_mk (Below.trod laidOut (by kernel_rfl) (of_decide_eq_true (by kernel_rfl)) h1 bel hlt1) trodAll_mk0)), rfl, bel.frame _, fun h => by cases h⟩

/-- The given statement. -/
theorem curveAt_holds : Rows.CurveAtSaid :=
  OpenClaim.holds_of_wide 3 Try.f3 rfl rfl rfl rfl rfl rfl rfl ⟨rfl, rfl, rfl, rfl, rfl⟩ rfl rfl rfl rfl rfl (by kernel_rfl) Try.func3 (by kernel_rfl)
    (of_decide_eq_true (by kernel_rfl)) (by unfold Func.isWrapper; first | (rw [if_pos (by decide +kernel)]; kernel_rfl) | (rw [if_neg (by decide +kernel)]; exact ⟨rfl, rfl⟩))
    (fun os started H enc _ => curveAt_lifted os started H enc)
#print axioms curveAt_holds
end Go.Proofs.Ytlfdlifmcabfjaa
