/-
  For every span and port, span.Check, Has and Count answer as the document says, and the examples of the document hold.
  Conditions: none; the law holds for every input.
-/
import Derived.Test.YthmekipdhlipbaaSpAw
import Derived.Test.YthmekipdhlipbaaSpRa
import Derived.Test.YthmekipdhlipbaaSpFrame
namespace Go.Proofs.Ythmekipdhlipbaa
open Go.ChangeShapes Go.WideShapes Go.ChangeAt Go.RowKit Go.Joins
set_option linter.unusedVariables false
set_option linter.unusedSimpArgs false

set_option maxHeartbeats 1000000 in
theorem spanChecks_walk (a b : Nat) (ha : a < 65536) (hb : b < 65536) (p : Nat) (hp : p < 65536) (w : World) :
    Calls Try.prog 5 #[.agg #[.int .u16 a, .int .u16 b], .int .u16 p] w fun e w' => e = .returned (.bool true) ∧ Below w.heap.size w w' := by
  go_enter Try.func5, Try.ntmps5
  go_wp2_with (fail)
  have kne : Nonempty (Kin ((w.alloc (.cells #[.int .u16 a, .int .u16 b] 41)))) := ⟨⟨_, Below.refl _ _⟩⟩
  have kc0 : ∀ y : Kin ((w.alloc (.cells #[.int .u16 a, .int .u16 b] 41))), y.val.cell? ⟨w.heap.size, 0, none⟩ = some (.int .u16 a) := fun y => by rw [kin_cell (by first | omega | (simp <;> omega))]; first | assumption | (simp [go_sem]; done) | simp [go_sem, *]
  have kc1 : ∀ y : Kin ((w.alloc (.cells #[.int .u16 a, .int .u16 b] 41))), y.val.cell? ⟨w.heap.size, 1, none⟩ = some (.int .u16 b) := fun y => by rw [kin_cell (by first | omega | (simp <;> omega))]; first | assumption | (simp [go_sem]; done) | simp [go_sem, *]
  refine wp_region_kin ((w.alloc (.cells #[.int .u16 a, .int .u16 b] 41))) (Below.refl _ _) (by kernel_rfl) (by kernel_rfl) ?_
  repeat (go_big_quiet_step (first | (go_at_call 17; exact kin_call (awakeS _)) | (go_at_call 18; exact kin_call (checkS a b _)) | (go_at_call 19; exact kin_call (rcheckS a b _)) | (go_at_call 20; exact kin_call (hasS a b p _)) | (go_at_call 21; exact kin_call (rhasS a b p _)) | (go_at_call 22; exact kin_call (countS a b _ ha hb)) | (go_at_call 23; exact kin_call (rcountS a b _ ha hb))))
  refine wpQuiet_nil ?_
  rintro wq ⟨⟨xq, hxq⟩, hyq⟩
  have hq : Below ((w.alloc (.cells #[.int .u16 a, .int .u16 b] 41))).heap.size ((w.alloc (.cells #[.int .u16 a, .int .u16 b] 41))) wq := by rw [hyq]; exact hxq
  clear hyq hxq xq
  clear kne kc0 kc1
  obtain ⟨hcq, hfq⟩ := bcell hq
  have hzq := hq.size
  try simp at hzq
  go_wp2
  go_ret
  exact ⟨rfl, by (repeat (first | assumption | exact Below.refl _ _ | refine Below.drew ?_ | refine bel_drewN ?_ _ | refine Below.setCell ?_ (by first | omega | (simp; done) | (simp; omega)) _ | refine Below.alloc ?_ (by first | omega | (simp; done) | (simp; omega)) _ | refine bel_of ?_ (by assumption)))⟩

set_option maxRecDepth 100000 in
theorem spanChecks_lifted (os : Os) (started : os.Started) (H : Type) (enc : TypeId × Value → H) :
    ReturnsInHanded {} Try.checked os 5 .any (Rows.spanChecksSpec.pre6 enc Try.prog Try.f5 Rows.spanChecksRow.domain false) (Rows.spanChecksSpec.post enc Try.prog Try.f5 false true false false) := by
  refine returnsInHanded_of_change (C := Try.checked) own started (by kernel_rfl) Try.func5
    (ChangeSpec.witness6 (enc := enc) (C := Try.checked) false ⟨#[], #[.agg #[.int .u16 0, .int .u16 0], .int .u16 0], []⟩ 8 (by kernel_rfl) (by kernel_rfl) (by kernel_rfl) (by kernel_rfl)) ?_
  intro W base args ds gs before hval0 hW hcnd _
  have hval : ∀ (j : Nat) t v, Try.f5.params[j]? = some t → args[j]? = some v → Value.okWide Try.prog W .any base t v := hval0
  have hW' := hW
  obtain ⟨p, q, hA0, hV, rfl, hfz, hnd⟩ := hW
  have hA : DataW.TrodAll enc Try.prog W 0 (fun _ => true) true Try.f5.params.toList args.toList ds p := hA0
  rw [Try.params5] at hA hval
  obtain ⟨v0, vs0, d0, ds0, p0, q0, hargs, rfl, rfl, h0, r0⟩ := trodAll_cons hA
  obtain ⟨v1, vs1, d1, ds1, p1, q1, rfl, rfl, rfl, h1, r1⟩ := trodAll_cons r0
  obtain ⟨rfl, rfl, rfl⟩ := trodAll_nil r1
  obtain rfl : args = #[v0, v1] := by cases args; simp_all
  obtain ⟨rfl, rfl⟩ := trodVars_none hV
  obtain ⟨a0, n0, rfl, rfl, rfl, w0, x0⟩ := open_sp (hval 0 41 v0 rfl rfl) h0
  obtain ⟨b0, rfl, t0⟩ := wf_u16 w0
  obtain ⟨c0, rfl, u0⟩ := wf_u16 x0
  obtain ⟨a1, rfl, rfl, rfl, w1⟩ := open_int Try.underlying39 (hval 1 39 v1 rfl rfl) h1
  obtain ⟨b1, rfl, t1⟩ := wf_u16 w1
  clear hA0 hval0
  simp only [List.append_nil] at hW'
  refine (spanChecks_walk b0 c0 t0 u0 b1 t1 W).mono fun e W' ⟨he, bel⟩ => ?_
  subst he
  exact ⟨_, rfl, _, _, _, [], _, [], hW', trodAll_mk1 (shut_bool Try.underlying4 _), (trodAll_cons_mk (shut_sp w0 x0) (trodAll_cons_mk (shut_int Try.underlying39 w1) trodAll_mk0)), rfl, bel.frame _, fun h => by cases h⟩

/-- The given statement. -/
theorem spanChecks_holds : Rows.SpanChecksSaid :=
  OpenClaim.holds_of_wide 5 Try.f5 rfl rfl rfl rfl rfl rfl rfl ⟨rfl, rfl, rfl, rfl, rfl⟩ rfl rfl rfl rfl rfl (by kernel_rfl) Try.func5 (by kernel_rfl)
    (of_decide_eq_true (by kernel_rfl)) (by unfold Func.isWrapper; first | (rw [if_pos (by decide +kernel)]; kernel_rfl) | (rw [if_neg (by decide +kernel)]; exact ⟨rfl, rfl⟩))
    (fun os started H enc _ => spanChecks_lifted os started H enc)
#print axioms spanChecks_holds
end Go.Proofs.Ythmekipdhlipbaa
