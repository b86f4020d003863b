/-
  For every mask and protocol, mask.Check, Has and Count answer as the document says (P4.1), and the examples of the document hold.
  Conditions: none; the law holds for every input.
-/
import Derived.Test.YtphfjhkbbodfaaaMkAw
import Derived.Test.YtphfjhkbbodfaaaMkUB
import Derived.Test.YtphfjhkbbodfaaaMkFrame
namespace Go.Proofs.Ytphfjhkbbodfaaa
open Go.ChangeShapes Go.WideShapes Go.ChangeAt Go.RowKit Go.Joins
set_option linter.unusedVariables false
set_option linter.unusedSimpArgs false

set_option maxHeartbeats 2000000 in
theorem maskChecks_walk (v c : Nat) (hv : v < 256) (hc : c < 256) (p : Nat) (hp : p < 256) (w : World) :
    Calls Try.prog 3 #[.agg #[.int .u8 v, .int .u8 c], .int .u8 p] w fun e w' => e = .returned (.bool true) ∧ Below w.heap.size w w' := by
  go_enter Try.func3, Try.ntmps3
  go_wp2_with (fail)
  have kne : Nonempty (Kin ((w.alloc (.cells #[.int .u8 v, .int .u8 c] 23)))) := ⟨⟨_, Below.refl _ _⟩⟩
  have kc0 : ∀ y : Kin ((w.alloc (.cells #[.int .u8 v, .int .u8 c] 23))), y.val.cell? ⟨w.heap.size, 0, none⟩ = some (.int .u8 v) := fun y => by rw [kin_cell (by first | omega | (simp <;> omega))]; first | assumption | (simp [go_sem]; done) | simp [go_sem, *]
  have kc1 : ∀ y : Kin ((w.alloc (.cells #[.int .u8 v, .int .u8 c] 23))), y.val.cell? ⟨w.heap.size, 1, none⟩ = some (.int .u8 c) := fun y => by rw [kin_cell (by first | omega | (simp <;> omega))]; first | assumption | (simp [go_sem]; done) | simp [go_sem, *]
  refine wp_region_kin ((w.alloc (.cells #[.int .u8 v, .int .u8 c] 23))) (Below.refl _ _) (by kernel_rfl) (by kernel_rfl) ?_
  repeat (go_big_quiet_step (first | (go_at_call 9; exact kin_call (awakeM _)) | (go_at_call 10; refine kin_call (checkM v c _ ?_ ?_) <;> assumption) | (go_at_call 11; refine kin_call (rcheckM v c _ ?_ ?_) <;> assumption) | (go_at_call 12; refine kin_call (hasC v c _ _ ?_ ?_) <;> assumption) | (go_at_call 13; refine kin_call (rhasM v c _ _ ?_ ?_ ?_) <;> assumption) | (go_at_call 14; refine kin_call (countM v c _ ?_ ?_) <;> assumption) | (go_at_call 15; refine kin_call (rcountM v c _ ?_ ?_) <;> assumption)))
  refine wpQuiet_nil ?_
  rintro wq ⟨⟨xq, hxq⟩, hyq⟩
  have hq : Below ((w.alloc (.cells #[.int .u8 v, .int .u8 c] 23))).heap.size ((w.alloc (.cells #[.int .u8 v, .int .u8 c] 23))) wq := by rw [hyq]; exact hxq
  clear hyq hxq xq
  clear kne kc0 kc1
  obtain ⟨hcq, hfq⟩ := bcell hq
  have hzq := hq.size
  try simp at hzq
  go_wp2
  go_ret
  exact ⟨rfl, by (repeat (first | assumption | exact Below.refl _ _ | refine Below.drew ?_ | refine bel_drewN ?_ _ | refine Below.setCell ?_ (by first | omega | (simp; done) | (simp; omega)) _ | refine Below.alloc ?_ (by first | omega | (simp; done) | (simp; omega)) _ | refine bel_of ?_ (by assumption)))⟩

set_option maxRecDepth 100000 in
theorem maskChecks_lifted (os : Os) (started : os.Started) (H : Type) (enc : TypeId × Value → H) :
    ReturnsInHanded {} Try.checked os 3 .any (Rows.maskChecksSpec.pre6 enc Try.prog Try.f3 Rows.maskChecksRow.domain false) (Rows.maskChecksSpec.post enc Try.prog Try.f3 false true false false) := by
  refine returnsInHanded_of_change (C := Try.checked) own started (by kernel_rfl) Try.func3
    (ChangeSpec.witness6 (enc := enc) (C := Try.checked) false ⟨#[], #[.agg #[.int .u8 0, .int .u8 0], .int .u8 0], []⟩ 8 (by kernel_rfl) (by kernel_rfl) (by kernel_rfl) (by kernel_rfl)) ?_
  intro W base args ds gs before hval0 hW hcnd _
  have hval : ∀ (j : Nat) t v, Try.f3.params[j]? = some t → args[j]? = some v → Value.okWide Try.prog W .any base t v := hval0
  have hW' := hW
  obtain ⟨p, q, hA0, hV, rfl, hfz, hnd⟩ := hW
  have hA : DataW.TrodAll enc Try.prog W 0 (fun _ => true) true Try.f3.params.toList args.toList ds p := hA0
  rw [Try.params3] at hA hval
  obtain ⟨v0, vs0, d0, ds0, p0, q0, hargs, rfl, rfl, h0, r0⟩ := trodAll_cons hA
  obtain ⟨v1, vs1, d1, ds1, p1, q1, rfl, rfl, rfl, h1, r1⟩ := trodAll_cons r0
  obtain ⟨rfl, rfl, rfl⟩ := trodAll_nil r1
  obtain rfl : args = #[v0, v1] := by cases args; simp_all
  obtain ⟨rfl, rfl⟩ := trodVars_none hV
  obtain ⟨a0, n0, rfl, rfl, rfl, w0, x0⟩ := open_mk (hval 0 23 v0 rfl rfl) h0
  obtain ⟨b0, rfl, t0⟩ := wf_u8 w0
  obtain ⟨c0, rfl, u0⟩ := wf_u8 x0
  obtain ⟨a1, rfl, rfl, rfl, w1⟩ := open_int Try.underlying5 (hval 1 5 v1 rfl rfl) h1
  obtain ⟨b1, rfl, t1⟩ := wf_u8 w1
  clear hA0 hval0
  simp only [List.append_nil] at hW'
  refine (maskChecks_walk b0 c0 t0 u0 b1 t1 W ).mono fun e W' ⟨he, bel⟩ => ?_
  subst he
  exact ⟨_, rfl, _, _, _, [], _, [], hW', trodAll_mk1 (shut_bool Try.underlying4 _), (trodAll_cons_mk (shut_mk w0 x0) (trodAll_cons_mk (shut_int Try.underlying5 w1) trodAll_mk0)), rfl, bel.frame _, fun h => by cases h⟩

/-- The given statement. -/
theorem maskChecks_holds : Rows.MaskChecksSaid :=
  OpenClaim.holds_of_wide 3 Try.f3 rfl rfl rfl rfl rfl rfl rfl ⟨rfl, rfl, rfl, rfl, rfl⟩ rfl rfl rfl rfl rfl (by kernel_rfl) Try.func3 (by kernel_rfl)
    (of_decide_eq_true (by kernel_rfl)) (by unfold Func.isWrapper; first | (rw [if_pos (by decide +kernel)]; kernel_rfl) | (rw [if_neg (by decide +kernel)]; exact ⟨rfl, rfl⟩))
    (fun os started H enc _ => maskChecks_lifted os started H enc)
#print axioms maskChecks_holds
end Go.Proofs.Ytphfjhkbbodfaaa
