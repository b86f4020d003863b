/-
  For every span, expand.Of and Count tell the fewest stems of the document (P5.2); what is told is its caller's own; the examples of the document hold.
  Conditions: none; the law holds for every input.
-/
import Derived.Test.YtapaoemcjpfpoaaExLo
import Derived.Test.YtapaoemcjpfpoaaExPf
import Derived.Test.YtapaoemcjpfpoaaExFrame
namespace Go.Proofs.Ytapaoemcjpfpoaa
open Go.ChangeShapes Go.WideShapes Go.ChangeAt Go.RowKit Go.Joins
set_option linter.unusedVariables false
set_option linter.unusedSimpArgs false

theorem expandOf_walk (lo hi : Nat) (hlo : lo < 65536) (hhi : hi < 65536) (w : World) :
    Calls Try.prog 4 #[.agg #[.int .u16 lo, .int .u16 hi]] w fun e w' => e = .returned (.bool true) ∧ Below w.heap.size w w' :=
  expandOf_core ofN ofC cntN cntC (awakeC ofC cntC backC lstC spnC chkC) lo hi hlo hhi w

set_option maxRecDepth 100000 in
theorem expandOf_lifted (os : Os) (started : os.Started) (H : Type) (enc : TypeId × Value → H) :
    ReturnsInHanded {} Try.checked os 4 .any (Rows.expandOfSpec.pre6 enc Try.prog Try.f4 Rows.expandOfRow.domain false) (Rows.expandOfSpec.post enc Try.prog Try.f4 false true false false) := by
  refine returnsInHanded_of_change (C := Try.checked) own started (by kernel_rfl) Try.func4
    (ChangeSpec.witness6 (enc := enc) (C := Try.checked) false ⟨#[], #[.agg #[.int .u16 0, .int .u16 0]], []⟩ 8 (by kernel_rfl) (by kernel_rfl) (by kernel_rfl) (by kernel_rfl)) ?_
  intro W base args ds gs before hval0 hW hcnd _
  have hval : ∀ (j : Nat) t v, Try.f4.params[j]? = some t → args[j]? = some v → Value.okWide Try.prog W .any base t v := hval0
  have hW' := hW
  obtain ⟨p, q, hA0, hV, rfl, hfz, hnd⟩ := hW
  have hA : DataW.TrodAll enc Try.prog W 0 (fun _ => true) true Try.f4.params.toList args.toList ds p := hA0
  rw [Try.params4] at hA hval
  obtain ⟨v0, vs0, d0, ds0, p0, q0, hargs, rfl, rfl, h0, r0⟩ := trodAll_cons hA
  obtain ⟨rfl, rfl, rfl⟩ := trodAll_nil r0
  obtain rfl : args = #[v0] := by cases args; simp_all
  obtain ⟨rfl, rfl⟩ := trodVars_none hV
  obtain ⟨a0, n0, rfl, rfl, rfl, w0, x0⟩ := open_sp (hval 0 26 v0 rfl rfl) h0
  obtain ⟨b0, rfl, t0⟩ := wf_u16 w0
  obtain ⟨c0, rfl, u0⟩ := wf_u16 x0
  clear hA0 hval0
  simp only [List.append_nil] at hW'
  refine (expandOf_walk b0 c0 t0 u0 W ).mono fun e W' ⟨he, bel⟩ => ?_
  subst he
  exact ⟨_, rfl, _, _, _, [], _, [], hW', trodAll_mk1 (shut_bool Try.underlying4 _), (trodAll_cons_mk (shut_sp w0 x0) trodAll_mk0), rfl, bel.frame _, fun h => by cases h⟩

/-- The given statement. -/
theorem expandOf_holds : Rows.ExpandOfSaid :=
  OpenClaim.holds_of_wide 4 Try.f4 rfl rfl rfl rfl rfl rfl rfl ⟨rfl, rfl, rfl, rfl, rfl⟩ rfl rfl rfl rfl rfl (by kernel_rfl) Try.func4 (by kernel_rfl)
    (of_decide_eq_true (by kernel_rfl)) (by unfold Func.isWrapper; first | (rw [if_pos (by decide +kernel)]; kernel_rfl) | (rw [if_neg (by decide +kernel)]; exact ⟨rfl, rfl⟩))
    (fun os started H enc _ => expandOf_lifted os started H enc)
#print axioms expandOf_holds
end Go.Proofs.Ytapaoemcjpfpoaa
