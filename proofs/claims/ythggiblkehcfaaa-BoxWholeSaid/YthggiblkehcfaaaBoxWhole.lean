/-
  For every header, box.Whole is the box of all headers as the document says it (P7.1), and holds it; and the examples of the document hold.
  Conditions: none; the law holds for every input.
-/
import Derived.Test.YthggiblkehcfaaaBxAw
import Derived.Test.YthggiblkehcfaaaBxRa
import Derived.Test.YthggiblkehcfaaaBxH
import Derived.Test.YthggiblkehcfaaaBxFrame
namespace Go.Proofs.Ythggiblkehcfaaa
open Go.ChangeShapes Go.WideShapes Go.ChangeAt Go.RowKit Go.Joins
set_option linter.unusedVariables false
set_option linter.unusedSimpArgs false

theorem has_whole (h : Hd) (o : OkH h) : hasH wholeX h = true := by
  obtain ⟨o1, o2, o3, o4, o5⟩ := o
  unfold hasH hasX wholeX okX okI hasI
  simp only [Bool.and_eq_true, decide_eq_true_eq]
  refine ⟨⟨⟨⟨⟨by decide, by decide⟩, by decide⟩, by decide⟩, by decide⟩, ⟨⟨⟨by omega, by omega⟩, by omega⟩, by omega⟩, ?_⟩
  unfold hasM
  simp
set_option maxRecDepth 20000 in
set_option maxHeartbeats 2000000 in
theorem boxWhole_walk (h : Hd) (o : OkH h) (w : World) :
    Calls Try.prog 3 #[.agg #[.int .u32 (h.s : Int), .int .u32 (h.d : Int), .int .u16 (h.p : Int), .int .u16 (h.q : Int), .int .u8 (h.r : Int)]] w fun e w' => e = .returned (.bool true) ∧ Below w.heap.size w w' := by
  have hW : ∀ W, Calls Try.prog 9 #[] W fun e w' => e = .returned (.agg #[.int .u32 0, .int .u32 4294967295, .int .u32 0, .int .u32 4294967295, .int .u16 0, .int .u16 65535, .int .u16 0, .int .u16 65535, .int .u8 0, .int .u8 0]) ∧ Below W.heap.size W w' := fun W => wholeXC W
  have hR : ∀ W, Calls Try.prog 11 #[] W fun e w' => e = .returned (.agg #[.int .u32 0, .int .u32 4294967295, .int .u32 0, .int .u32 4294967295, .int .u16 0, .int .u16 65535, .int .u16 0, .int .u16 65535, .int .u8 0, .int .u8 0]) ∧ Below W.heap.size W w' := fun W => rwholeX W
  have hH : ∀ W, Calls Try.prog 12 #[.agg #[.int .u32 0, .int .u32 4294967295, .int .u32 0, .int .u32 4294967295, .int .u16 0, .int .u16 65535, .int .u16 0, .int .u16 65535, .int .u8 0, .int .u8 0], .agg #[.int .u32 (h.s : Int), .int .u32 (h.d : Int), .int .u16 (h.p : Int), .int .u16 (h.q : Int), .int .u8 (h.r : Int)]] W fun e w' => e = .returned (.bool true) ∧ Below W.heap.size W w' := fun W => by
    have := hasXC wholeX h W wholeX_bd o
    rw [has_whole h o] at this
    exact this
  have hA := fun W => awakeX W
  clear o
  go_enter Try.func3, Try.ntmps3
  go_wp2_with (fail)
  refine (hW _).mono ?_
  rintro e w1 ⟨rfl, hb1⟩
  have hH1 := blk_on (blk_new w (.cells #[.int .u32 (h.s : Int), .int .u32 (h.d : Int), .int .u16 (h.p : Int), .int .u16 (h.q : Int), .int .u8 (h.r : Int)] 25)) hb1
  obtain ⟨d0, d1, d2, d3, d4⟩ := blk5 hH1
  have hlt := blk_lt hH1
  have n0 : ¬ w.heap.size = w1.heap.size := by omega
  have hbl : Hid (Below w.heap.size w w1) := by show Below _ _ _; (repeat (first | assumption | exact Below.refl _ _ | refine Below.drew ?_ | refine bel_drewN ?_ _ | refine Below.setCell ?_ (by first | omega | (simp; done) | (simp; omega)) _ | refine Below.alloc ?_ (by first | omega | (simp; done) | (simp; omega)) _ | refine bel_of ?_ (by assumption)))
  clear hb1 hW hH1
  go_wp2_with (fail)
  have kne : Nonempty (Kin (w1.alloc (.cells #[.int .u32 0, .int .u32 4294967295, .int .u32 0, .int .u32 4294967295, .int .u16 0, .int .u16 65535, .int .u16 0, .int .u16 65535, .int .u8 0, .int .u8 0] 33))) := ⟨⟨_, Below.refl _ _⟩⟩
  have kc0 : ∀ y : Kin (w1.alloc (.cells #[.int .u32 0, .int .u32 4294967295, .int .u32 0, .int .u32 4294967295, .int .u16 0, .int .u16 65535, .int .u16 0, .int .u16 65535, .int .u8 0, .int .u8 0] 33)), y.val.cell? ⟨w1.heap.size, 0, none⟩ = some (.int .u32 0) := fun y => by rw [kin_cell (by first | omega | (simp <;> omega))]; first | assumption | (simp [go_sem]; done) | simp [go_sem, *]
  have kc1 : ∀ y : Kin (w1.alloc (.cells #[.int .u32 0, .int .u32 4294967295, .int .u32 0, .int .u32 4294967295, .int .u16 0, .int .u16 65535, .int .u16 0, .int .u16 65535, .int .u8 0, .int .u8 0] 33)), y.val.cell? ⟨w1.heap.size, 1, none⟩ = some (.int .u32 4294967295) := fun y => by rw [kin_cell (by first | omega | (simp <;> omega))]; first | assumption | (simp [go_sem]; done) | simp [go_sem, *]
  have kc2 : ∀ y : Kin (w1.alloc (.cells #[.int .u32 0, .int .u32 4294967295, .int .u32 0, .int .u32 4294967295, .int .u16 0, .int .u16 65535, .int .u16 0, .int .u16 65535, .int .u8 0, .int .u8 0] 33)), y.val.cell? ⟨w1.heap.size, 2, none⟩ = some (.int .u32 0) := fun y => by rw [kin_cell (by first | omega | (simp <;> omega))]; first | assumption | (simp [go_sem]; done) | simp [go_sem, *]
  have kc3 : ∀ y : Kin (w1.alloc (.cells #[.int .u32 0, .int .u32 4294967295, .int .u32 0, .int .u32 4294967295, .int .u16 0, .int .u16 65535, .int .u16 0, .int .u16 65535, .int .u8 0, .int .u8 0] 33)), y.val.cell? ⟨w1.heap.size, 3, none⟩ = some (.int .u32 4294967295) := fun y => by rw [kin_cell (by first | omega | (simp <;> omega))]; first | assumption | (simp [go_sem]; done) | simp [go_sem, *]
  have kc4 : ∀ y : Kin (w1.alloc (.cells #[.int .u32 0, .int .u32 4294967295, .int .u32 0, .int .u32 4294967295, .int .u16 0, .int .u16 65535, .int .u16 0, .int .u16 65535, .int .u8 0, .int .u8 0] 33)), y.val.cell? ⟨w1.heap.size, 4, none⟩ = some (.int .u16 0) := fun y => by rw [kin_cell (by first | omega | (simp <;> omega))]; first | assumption | (simp [go_sem]; done) | simp [go_sem, *]
  have kc5 : ∀ y : Kin (w1.alloc (.cells #[.int .u32 0, .int .u32 4294967295, .int .u32 0, .int .u32 4294967295, .int .u16 0, .int .u16 65535, .int .u16 0, .int .u16 65535, .int .u8 0, .int .u8 0] 33)), y.val.cell? ⟨w1.heap.size, 5, none⟩ = some (.int .u16 65535) := fun y => by rw [kin_cell (by first | omega | (simp <;> omega))]; first | assumption | (simp [go_sem]; done) | simp [go_sem, *]
  have kc6 : ∀ y : Kin (w1.alloc (.cells #[.int .u32 0, .int .u32 4294967295, .int .u32 0, .int .u32 4294967295, .int .u16 0, .int .u16 65535, .int .u16 0, .int .u16 65535, .int .u8 0, .int .u8 0] 33)), y.val.cell? ⟨w1.heap.size, 6, none⟩ = some (.int .u16 0) := fun y => by rw [kin_cell (by first | omega | (simp <;> omega))]; first | assumption | (simp [go_sem]; done) | simp [go_sem, *]
  have kc7 : ∀ y : Kin (w1.alloc (.cells #[.int .u32 0, .int .u32 4294967295, .int .u32 0, .int .u32 4294967295, .int .u16 0, .int .u16 65535, .int .u16 0, .int .u16 65535, .int .u8 0, .int .u8 0] 33)), y.val.cell? ⟨w1.heap.size, 7, none⟩ = some (.int .u16 65535) := fun y => by rw [kin_cell (by first | omega | (simp <;> omega))]; first | assumption | (simp [go_sem]; done) | simp [go_sem, *]
  have kc8 : ∀ y : Kin (w1.alloc (.cells #[.int .u32 0, .int .u32 4294967295, .int .u32 0, .int .u32 4294967295, .int .u16 0, .int .u16 65535, .int .u16 0, .int .u16 65535, .int .u8 0, .int .u8 0] 33)), y.val.cell? ⟨w1.heap.size, 8, none⟩ = some (.int .u8 0) := fun y => by rw [kin_cell (by first | omega | (simp <;> omega))]; first | assumption | (simp [go_sem]; done) | simp [go_sem, *]
  have kc9 : ∀ y : Kin (w1.alloc (.cells #[.int .u32 0, .int .u32 4294967295, .int .u32 0, .int .u32 4294967295, .int .u16 0, .int .u16 65535, .int .u16 0, .int .u16 65535, .int .u8 0, .int .u8 0] 33)), y.val.cell? ⟨w1.heap.size, 9, none⟩ = some (.int .u8 0) := fun y => by rw [kin_cell (by first | omega | (simp <;> omega))]; first | assumption | (simp [go_sem]; done) | simp [go_sem, *]
  have kc10 : ∀ y : Kin (w1.alloc (.cells #[.int .u32 0, .int .u32 4294967295, .int .u32 0, .int .u32 4294967295, .int .u16 0, .int .u16 65535, .int .u16 0, .int .u16 65535, .int .u8 0, .int .u8 0] 33)), y.val.cell? ⟨w.heap.size, 0, none⟩ = some (.int .u32 (h.s : Int)) := fun y => by rw [kin_cell (by first | omega | (simp <;> omega))]; first | assumption | (simp [go_sem]; done) | simp [go_sem, *]
  have kc11 : ∀ y : Kin (w1.alloc (.cells #[.int .u32 0, .int .u32 4294967295, .int .u32 0, .int .u32 4294967295, .int .u16 0, .int .u16 65535, .int .u16 0, .int .u16 65535, .int .u8 0, .int .u8 0] 33)), y.val.cell? ⟨w.heap.size, 1, none⟩ = some (.int .u32 (h.d : Int)) := fun y => by rw [kin_cell (by first | omega | (simp <;> omega))]; first | assumption | (simp [go_sem]; done) | simp [go_sem, *]
  have kc12 : ∀ y : Kin (w1.alloc (.cells #[.int .u32 0, .int .u32 4294967295, .int .u32 0, .int .u32 4294967295, .int .u16 0, .int .u16 65535, .int .u16 0, .int .u16 65535, .int .u8 0, .int .u8 0] 33)), y.val.cell? ⟨w.heap.size, 2, none⟩ = some (.int .u16 (h.p : Int)) := fun y => by rw [kin_cell (by first | omega | (simp <;> omega))]; first | assumption | (simp [go_sem]; done) | simp [go_sem, *]
  have kc13 : ∀ y : Kin (w1.alloc (.cells #[.int .u32 0, .int .u32 4294967295, .int .u32 0, .int .u32 4294967295, .int .u16 0, .int .u16 65535, .int .u16 0, .int .u16 65535, .int .u8 0, .int .u8 0] 33)), y.val.cell? ⟨w.heap.size, 3, none⟩ = some (.int .u16 (h.q : Int)) := fun y => by rw [kin_cell (by first | omega | (simp <;> omega))]; first | assumption | (simp [go_sem]; done) | simp [go_sem, *]
  have kc14 : ∀ y : Kin (w1.alloc (.cells #[.int .u32 0, .int .u32 4294967295, .int .u32 0, .int .u32 4294967295, .int .u16 0, .int .u16 65535, .int .u16 0, .int .u16 65535, .int .u8 0, .int .u8 0] 33)), y.val.cell? ⟨w.heap.size, 4, none⟩ = some (.int .u8 (h.r : Int)) := fun y => by rw [kin_cell (by first | omega | (simp <;> omega))]; first | assumption | (simp [go_sem]; done) | simp [go_sem, *]
  refine wp_region_kin (w1.alloc (.cells #[.int .u32 0, .int .u32 4294967295, .int .u32 0, .int .u32 4294967295, .int .u16 0, .int .u16 65535, .int .u16 0, .int .u16 65535, .int .u8 0, .int .u8 0] 33)) (Below.refl _ _) (by kernel_rfl) (by kernel_rfl) ?_
  repeat (go_big_quiet_step (first | (go_at_call 10; exact kin_call (hA _)) | (go_at_call 11; exact kin_call (hR _)) | (go_at_call 12; exact kin_call (hH _))))
  refine wpQuiet_nil ?_
  rintro wq ⟨⟨xq, hxq⟩, hyq⟩
  have hq : Below (w1.alloc (.cells #[.int .u32 0, .int .u32 4294967295, .int .u32 0, .int .u32 4294967295, .int .u16 0, .int .u16 65535, .int .u16 0, .int .u16 65535, .int .u8 0, .int .u8 0] 33)).heap.size (w1.alloc (.cells #[.int .u32 0, .int .u32 4294967295, .int .u32 0, .int .u32 4294967295, .int .u16 0, .int .u16 65535, .int .u16 0, .int .u16 65535, .int .u8 0, .int .u8 0] 33)) wq := by rw [hyq]; exact hxq
  clear hyq hxq xq
  clear kne kc0 kc1 kc2 kc3 kc4 kc5 kc6 kc7 kc8 kc9 kc10 kc11 kc12 kc13 kc14
  obtain ⟨hcq, hfq⟩ := bcell hq
  have hzq := hq.size
  try simp at hzq
  go_wp2
  go_ret
  exact ⟨rfl, (hbl.out.alloc (by omega) _).trans (hq.mono (by simp; omega))⟩

set_option maxRecDepth 100000 in
theorem boxWhole_lifted (os : Os) (started : os.Started) (H : Type) (enc : TypeId × Value → H) :
    ReturnsInHanded {} Try.checked os 3 .any (Rows.boxWholeSpec.pre6 enc Try.prog Try.f3 Rows.boxWholeRow.domain false) (Rows.boxWholeSpec.post enc Try.prog Try.f3 false true false false) := by
  refine returnsInHanded_of_change (C := Try.checked) own started (by kernel_rfl) Try.func3
    (ChangeSpec.witness6 (enc := enc) (C := Try.checked) false ⟨#[], #[.agg #[.int .u32 0, .int .u32 0, .int .u16 0, .int .u16 0, .int .u8 0]], []⟩ 8 (by kernel_rfl) (by kernel_rfl) (by kernel_rfl) (by kernel_rfl)) ?_
  intro W base args ds gs before hval0 hW hcnd _
  have hval : ∀ (j : Nat) t v, Try.f3.params[j]? = some t → args[j]? = some v → Value.okWide Try.prog W .any base t v := hval0
  have hW' := hW
  obtain ⟨p, q, hA0, hV, rfl, hfz, hnd⟩ := hW
  have hA : DataW.TrodAll enc Try.prog W 0 (fun _ => true) true Try.f3.params.toList args.toList ds p := hA0
  rw [Try.params3] at hA hval
  obtain ⟨v0, vs0, d0, ds0, p0, q0, hargs, rfl, rfl, h0, r0⟩ := trodAll_cons hA
  obtain ⟨rfl, rfl, rfl⟩ := trodAll_nil r0
  obtain rfl : args = #[v0] := by cases args; simp_all
  obtain ⟨rfl, rfl⟩ := trodVars_none hV
  obtain ⟨g0, rfl, rfl, rfl, o0⟩ := open_hd (hval 0 25 v0 rfl rfl) h0
  clear hA0 hval0
  simp only [List.append_nil] at hW'
  refine (boxWhole_walk g0 o0 W ).mono fun e W' ⟨he, bel⟩ => ?_
  subst he
  exact ⟨_, rfl, _, _, _, [], _, [], hW', trodAll_mk1 (shut_bool Try.underlying4 _), (trodAll_cons_mk (shut_hd o0) trodAll_mk0), rfl, bel.frame _, fun h => by cases h⟩

/-- The given statement. -/
theorem boxWhole_holds : Rows.BoxWholeSaid :=
  OpenClaim.holds_of_wide 3 Try.f3 rfl rfl rfl rfl rfl rfl rfl ⟨rfl, rfl, rfl, rfl, rfl⟩ rfl rfl rfl rfl rfl (by kernel_rfl) Try.func3 (by kernel_rfl)
    (of_decide_eq_true (by kernel_rfl)) (by unfold Func.isWrapper; first | (rw [if_pos (by decide +kernel)]; kernel_rfl) | (rw [if_neg (by decide +kernel)]; exact ⟨rfl, rfl⟩))
    (fun os started H enc _ => boxWhole_lifted os started H enc)
#print axioms boxWhole_holds
end Go.Proofs.Ythggiblkehcfaaa
