/-
  For every two stems and every port, one of the stems holds all of the other one, or they share no port (P5.1); the examples of the document hold.
  Conditions: none; the law holds for every input.
-/
import Derived.Test.YtapaoemcjpfpoaaExLm
import Derived.Test.YtapaoemcjpfpoaaExPf
import Derived.Test.YtapaoemcjpfpoaaExFrame
namespace Go.Proofs.Ytapaoemcjpfpoaa
open Go.ChangeShapes Go.WideShapes Go.ChangeAt Go.RowKit Go.Joins
set_option linter.unusedVariables false
set_option linter.unusedSimpArgs false

theorem expandMeets_walk (b : Nat) (n : Int) (hb : b < 65536) (c : Nat) (m : Int) (hc : c < 65536) (q : Nat) (hq : q < 65536) (w : World) :
    Calls Try.prog 8 #[.agg #[.int .u16 b, .int .i64 n], .agg #[.int .u16 c, .int .i64 m], .int .u16 q] w fun e w' => e = .returned (.bool true) ∧ Below w.heap.size w w' :=
  expandMeets_core hasC spnN spnC (awakeC ofC cntC backC lstC spnC chkC) b n hb c m hc q hq w

set_option maxRecDepth 100000 in
theorem expandMeets_lifted (os : Os) (started : os.Started) (H : Type) (enc : TypeId × Value → H) :
    ReturnsInHanded {} Try.checked os 8 .any (Rows.expandMeetsSpec.pre6 enc Try.prog Try.f8 Rows.expandMeetsRow.domain false) (Rows.expandMeetsSpec.post enc Try.prog Try.f8 false true false false) := by
  refine returnsInHanded_of_change (C := Try.checked) own started (by kernel_rfl) Try.func8
    (ChangeSpec.witness6 (enc := enc) (C := Try.checked) false ⟨#[], #[.agg #[.int .u16 0, .int .i64 0], .agg #[.int .u16 0, .int .i64 0], .int .u16 0], []⟩ 8 (by kernel_rfl) (by kernel_rfl) (by kernel_rfl) (by kernel_rfl)) ?_
  intro W base args ds gs before hval0 hW hcnd _
  have hval : ∀ (j : Nat) t v, Try.f8.params[j]? = some t → args[j]? = some v → Value.okWide Try.prog W .any base t v := hval0
  have hW' := hW
  obtain ⟨p, q, hA0, hV, rfl, hfz, hnd⟩ := hW
  have hA : DataW.TrodAll enc Try.prog W 0 (fun _ => true) true Try.f8.params.toList args.toList ds p := hA0
  rw [Try.params8] at hA hval
  obtain ⟨v0, vs0, d0, ds0, p0, q0, hargs, rfl, rfl, h0, r0⟩ := trodAll_cons hA
  obtain ⟨v1, vs1, d1, ds1, p1, q1, rfl, rfl, rfl, h1, r1⟩ := trodAll_cons r0
  obtain ⟨v2, vs2, d2, ds2, p2, q2, rfl, rfl, rfl, h2, r2⟩ := trodAll_cons r1
  obtain ⟨rfl, rfl, rfl⟩ := trodAll_nil r2
  obtain rfl : args = #[v0, v1, v2] := by cases args; simp_all
  obtain ⟨rfl, rfl⟩ := trodVars_none hV
  obtain ⟨a0, n0, rfl, rfl, rfl, w0, x0⟩ := open_st (hval 0 24 v0 rfl rfl) h0
  obtain ⟨b0, rfl, t0⟩ := wf_u16 w0
  obtain ⟨a1, n1, rfl, rfl, rfl, w1, x1⟩ := open_st (hval 1 24 v1 rfl rfl) h1
  obtain ⟨b1, rfl, t1⟩ := wf_u16 w1
  obtain ⟨a2, rfl, rfl, rfl, w2⟩ := open_int Try.underlying22 (hval 2 22 v2 rfl rfl) h2
  obtain ⟨b2, rfl, t2⟩ := wf_u16 w2
  clear hA0 hval0
  simp only [List.append_nil] at hW'
  refine (expandMeets_walk b0 n0 t0 b1 n1 t1 b2 t2 W ).mono fun e W' ⟨he, bel⟩ => ?_
  subst he
  exact ⟨_, rfl, _, _, _, [], _, [], hW', trodAll_mk1 (shut_bool Try.underlying4 _), (trodAll_cons_mk (shut_st w0 x0) (trodAll_cons_mk (shut_st w1 x1) (trodAll_cons_mk (shut_int Try.underlying22 w2) trodAll_mk0))), rfl, bel.frame _, fun h => by cases h⟩

/-- The given statement. -/
theorem expandMeets_holds : Rows.ExpandMeetsSaid :=
  OpenClaim.holds_of_wide 8 Try.f8 rfl rfl rfl rfl rfl rfl rfl ⟨rfl, rfl, rfl, rfl, rfl⟩ rfl rfl rfl rfl rfl (by kernel_rfl) Try.func8 (by kernel_rfl)
    (of_decide_eq_true (by kernel_rfl)) (by unfold Func.isWrapper; first | (rw [if_pos (by decide +kernel)]; kernel_rfl) | (rw [if_neg (by decide +kernel)]; exact ⟨rfl, rfl⟩))
    (fun os started H enc _ => expandMeets_lifted os started H enc)
#print axioms expandMeets_holds
end Go.Proofs.Ytapaoemcjpfpoaa
