/-
  For any id, action and header: rule.All answers as the document says, and the rule matches the header just if id and action may be (P8.5); and the examples of the document hold.
  Conditions: none; the law holds for every input.
-/
import Derived.Test.YtebljklpkoheaaaGreatRuAw
import Derived.Test.YtebljklpkoheaaaGreatRuFrame
namespace Go.Proofs.YtebljklpkoheaaaGreat
open Go.ChangeShapes Go.WideShapes Go.ChangeAt Go.RowKit Go.Joins
set_option linter.unusedVariables false
set_option linter.unusedSimpArgs false

theorem eqR_refl (R : Ru) (w : World) : Sem.run Tryz.prog (binOp .eql 32 (.agg #[.int .i64 R.i, .int .u32 (R.s : Int), .int .i64 R.sl, .int .u32 (R.d : Int), .int .i64 R.dl, .int .u16 (R.p.1 : Int), .int .u16 (R.p.2 : Int), .int .u16 (R.q.1 : Int), .int .u16 (R.q.2 : Int), .int .u8 (R.m.1 : Int), .int .u8 (R.m.2 : Int), .int .i64 R.act]) (.agg #[.int .i64 R.i, .int .u32 (R.s : Int), .int .i64 R.sl, .int .u32 (R.d : Int), .int .i64 R.dl, .int .u16 (R.p.1 : Int), .int .u16 (R.p.2 : Int), .int .u16 (R.q.1 : Int), .int .u16 (R.q.2 : Int), .int .u8 (R.m.1 : Int), .int .u8 (R.m.2 : Int), .int .i64 R.act])) w = .ok (.bool true) w := by
  simp [go_sem]
set_option maxRecDepth 20000 in
set_option maxHeartbeats 4000000 in
theorem ruleAlls_walk (i : Int) (wi : (Lit.int .i64 i).wf = true) (a : Int) (wa : (Lit.int .i64 a).wf = true) (h : Hd) (oh : OkH h) (w : World) :
    Calls Tryz.prog 5 #[.int .i64 i, .int .i64 a, .agg #[.int .u32 (h.s : Int), .int .u32 (h.d : Int), .int .u16 (h.p : Int), .int .u16 (h.q : Int), .int .u8 (h.r : Int)]] w fun e w' => e = .returned (.bool true) ∧ Below w.heap.size w w' := by
  have bi := wf_i64 wi
  have ba := wf_i64 wa
  have hb : BdR (allR i a) := ⟨by simp [allR], by simp [allR], by simp [allR], by simp [allR], by simp [allR], by simp [allR], by simp [allR], by simp [allR], bi, by unfold I64; simp [allR], by unfold I64; simp [allR], ba⟩
  have hA : ∀ W, Calls Tryz.prog 22 #[.int .i64 i, .int .i64 a] W fun e w' => e = .returned (.agg #[.int .i64 i, .int .u32 0, .int .i64 0, .int .u32 0, .int .i64 0, .int .u16 0, .int .u16 65535, .int .u16 0, .int .u16 65535, .int .u8 0, .int .u8 0, .int .i64 a]) ∧ Below W.heap.size W w' := fun W => allRC i a W
  have hRA : ∀ W, Calls Tryz.prog 23 #[.int .i64 i, .int .i64 a] W fun e w' => e = .returned (.agg #[.int .i64 i, .int .u32 0, .int .i64 0, .int .u32 0, .int .i64 0, .int .u16 0, .int .u16 65535, .int .u16 0, .int .u16 65535, .int .u8 0, .int .u8 0, .int .i64 a]) ∧ Below W.heap.size W w' := fun W => rallRC i a W
  have hE : ∀ W, Sem.run Tryz.prog (binOp .eql 32 (.agg #[.int .i64 i, .int .u32 0, .int .i64 0, .int .u32 0, .int .i64 0, .int .u16 0, .int .u16 65535, .int .u16 0, .int .u16 65535, .int .u8 0, .int .u8 0, .int .i64 a]) (.agg #[.int .i64 i, .int .u32 0, .int .i64 0, .int .u32 0, .int .i64 0, .int .u16 0, .int .u16 65535, .int .u16 0, .int .u16 65535, .int .u8 0, .int .u8 0, .int .i64 a])) W = .ok (.bool true) W := fun W => eqR_refl (allR i a) W
  have hM0 := fun W => matchC (allR i a) h W hb oh
  have HRR : Hid (matchR (allR i a) h = decide (1 ≤ i ∧ i ≤ 999999 ∧ 1 ≤ a ∧ a ≤ 4)) := allR_has i a h oh
  generalize matchR (allR i a) h = rr at *
  have hM : ∀ W, Calls Tryz.prog 16 #[.agg #[.int .i64 i, .int .u32 0, .int .i64 0, .int .u32 0, .int .i64 0, .int .u16 0, .int .u16 65535, .int .u16 0, .int .u16 65535, .int .u8 0, .int .u8 0, .int .i64 a], .agg #[.int .u32 (h.s : Int), .int .u32 (h.d : Int), .int .u16 (h.p : Int), .int .u16 (h.q : Int), .int .u8 (h.r : Int)]] W fun e w' => e = .returned (.bool rr) ∧ Below W.heap.size W w' := hM0
  clear hM0 hb bi ba wi wa oh
  go_enter Tryz.func5, Tryz.ntmps5
  go_wp2_with (fail)
  refine (hA _).mono ?_
  rintro e w1 ⟨rfl, hb1⟩
  have Gh : Hid (w1.heap[w.heap.size]? = some (.cells #[.int .u32 (h.s : Int), .int .u32 (h.d : Int), .int .u16 (h.p : Int), .int .u16 (h.q : Int), .int .u8 (h.r : Int)] 34)) := blk_on (blk_new w (.cells #[.int .u32 (h.s : Int), .int .u32 (h.d : Int), .int .u16 (h.p : Int), .int .u16 (h.q : Int), .int .u8 (h.r : Int)] 34)) hb1
  have HO1 : Hid (w.heap.size < w1.heap.size) := blk_lt Gh.out
  have hbl1 : Hid (Below w.heap.size w w1) := bel_step (Below.refl _ _) (bel_a1 _ _) hb1
  clear hb1
  have Hh := Gh
  clear Gh
  have lh := blk_lt Hh.out
  have nh : ¬ w.heap.size = w1.heap.size := by omega
  go_upto_region 2 with (fail)
  go_cut [8] (fun v wx => v = .bool rr ∧ Hid (wx = (w1.alloc (.cells #[.int .i64 i, .int .u32 0, .int .i64 0, .int .u32 0, .int .i64 0, .int .u16 0, .int .u16 65535, .int .u16 0, .int .u16 65535, .int .u8 0, .int .u8 0, .int .i64 a] 32))))
  case first =>
    by_cases c0 : 1 ≤ i
    · by_cases c1 : i ≤ 999999
      · by_cases c2 : 1 ≤ a
        · by_cases c3 : a ≤ 4
          · go_wp2_with (fail)
            go_meet
            case rel => exact ⟨by rw [HRR.out]; simp <;> omega, rfl⟩
          · go_wp2_with (fail)
            go_meet
            case rel => exact ⟨by rw [HRR.out]; simp <;> omega, rfl⟩
        · go_wp2_with (fail)
          go_meet
          case rel => exact ⟨by rw [HRR.out]; simp <;> omega, rfl⟩
      · go_wp2_with (fail)
        go_meet
        case rel => exact ⟨by rw [HRR.out]; simp <;> omega, rfl⟩
    · go_wp2_with (fail)
      go_meet
      case rel => exact ⟨by rw [HRR.out]; simp <;> omega, rfl⟩
  case rest =>
    obtain ⟨rfl, hcw⟩ := hcut
    obtain rfl := hcw.out
    clear hcw
    go_upto_region 3 with (fail)
    have kne : Nonempty (Kin ((w1.alloc (.cells #[.int .i64 i, .int .u32 0, .int .i64 0, .int .u32 0, .int .i64 0, .int .u16 0, .int .u16 65535, .int .u16 0, .int .u16 65535, .int .u8 0, .int .u8 0, .int .i64 a] 32)))) := ⟨⟨_, Below.refl _ _⟩⟩
    have kbR : ∀ y : Kin ((w1.alloc (.cells #[.int .i64 i, .int .u32 0, .int .i64 0, .int .u32 0, .int .i64 0, .int .u16 0, .int .u16 65535, .int .u16 0, .int .u16 65535, .int .u8 0, .int .u8 0, .int .i64 a] 32))), y.val.heap[w1.heap.size]? = some (.cells #[.int .i64 i, .int .u32 0, .int .i64 0, .int .u32 0, .int .i64 0, .int .u16 0, .int .u16 65535, .int .u16 0, .int .u16 65535, .int .u8 0, .int .u8 0, .int .i64 a] 32) := fun y => blk_on (blk_new w1 (.cells #[.int .i64 i, .int .u32 0, .int .i64 0, .int .u32 0, .int .i64 0, .int .u16 0, .int .u16 65535, .int .u16 0, .int .u16 65535, .int .u8 0, .int .u8 0, .int .i64 a] 32)) y.is
    have kcR_0 : ∀ y : Kin ((w1.alloc (.cells #[.int .i64 i, .int .u32 0, .int .i64 0, .int .u32 0, .int .i64 0, .int .u16 0, .int .u16 65535, .int .u16 0, .int .u16 65535, .int .u8 0, .int .u8 0, .int .i64 a] 32))), y.val.cell? ⟨w1.heap.size, 0, none⟩ = some (.int .i64 i) := fun y => blk_cell (kbR y) rfl
    have kcR_1 : ∀ y : Kin ((w1.alloc (.cells #[.int .i64 i, .int .u32 0, .int .i64 0, .int .u32 0, .int .i64 0, .int .u16 0, .int .u16 65535, .int .u16 0, .int .u16 65535, .int .u8 0, .int .u8 0, .int .i64 a] 32))), y.val.cell? ⟨w1.heap.size, 1, none⟩ = some (.int .u32 0) := fun y => blk_cell (kbR y) rfl
    have kcR_2 : ∀ y : Kin ((w1.alloc (.cells #[.int .i64 i, .int .u32 0, .int .i64 0, .int .u32 0, .int .i64 0, .int .u16 0, .int .u16 65535, .int .u16 0, .int .u16 65535, .int .u8 0, .int .u8 0, .int .i64 a] 32))), y.val.cell? ⟨w1.heap.size, 2, none⟩ = some (.int .i64 0) := fun y => blk_cell (kbR y) rfl
    have kcR_3 : ∀ y : Kin ((w1.alloc (.cells #[.int .i64 i, .int .u32 0, .int .i64 0, .int .u32 0, .int .i64 0, .int .u16 0, .int .u16 65535, .int .u16 0, .int .u16 65535, .int .u8 0, .int .u8 0, .int .i64 a] 32))), y.val.cell? ⟨w1.heap.size, 3, none⟩ = some (.int .u32 0) := fun y => blk_cell (kbR y) rfl
    have kcR_4 : ∀ y : Kin ((w1.alloc (.cells #[.int .i64 i, .int .u32 0, .int .i64 0, .int .u32 0, .int .i64 0, .int .u16 0, .int .u16 65535, .int .u16 0, .int .u16 65535, .int .u8 0, .int .u8 0, .int .i64 a] 32))), y.val.cell? ⟨w1.heap.size, 4, none⟩ = some (.int .i64 0) := fun y => blk_cell (kbR y) rfl
    have kcR_5 : ∀ y : Kin ((w1.alloc (.cells #[.int .i64 i, .int .u32 0, .int .i64 0, .int .u32 0, .int .i64 0, .int .u16 0, .int .u16 65535, .int .u16 0, .int .u16 65535, .int .u8 0, .int .u8 0, .int .i64 a] 32))), y.val.cell? ⟨w1.heap.size, 5, none⟩ = some (.int .u16 0) := fun y => blk_cell (kbR y) rfl
    have kcR_6 : ∀ y : Kin ((w1.alloc (.cells #[.int .i64 i, .int .u32 0, .int .i64 0, .int .u32 0, .int .i64 0, .int .u16 0, .int .u16 65535, .int .u16 0, .int .u16 65535, .int .u8 0, .int .u8 0, .int .i64 a] 32))), y.val.cell? ⟨w1.heap.size, 6, none⟩ = some (.int .u16 65535) := fun y => blk_cell (kbR y) rfl
    have kcR_7 : ∀ y : Kin ((w1.alloc (.cells #[.int .i64 i, .int .u32 0, .int .i64 0, .int .u32 0, .int .i64 0, .int .u16 0, .int .u16 65535, .int .u16 0, .int .u16 65535, .int .u8 0, .int .u8 0, .int .i64 a] 32))), y.val.cell? ⟨w1.heap.size, 7, none⟩ = some (.int .u16 0) := fun y => blk_cell (kbR y) rfl
    have kcR_8 : ∀ y : Kin ((w1.alloc (.cells #[.int .i64 i, .int .u32 0, .int .i64 0, .int .u32 0, .int .i64 0, .int .u16 0, .int .u16 65535, .int .u16 0, .int .u16 65535, .int .u8 0, .int .u8 0, .int .i64 a] 32))), y.val.cell? ⟨w1.heap.size, 8, none⟩ = some (.int .u16 65535) := fun y => blk_cell (kbR y) rfl
    have kcR_9 : ∀ y : Kin ((w1.alloc (.cells #[.int .i64 i, .int .u32 0, .int .i64 0, .int .u32 0, .int .i64 0, .int .u16 0, .int .u16 65535, .int .u16 0, .int .u16 65535, .int .u8 0, .int .u8 0, .int .i64 a] 32))), y.val.cell? ⟨w1.heap.size, 9, none⟩ = some (.int .u8 0) := fun y => blk_cell (kbR y) rfl
    have kcR_10 : ∀ y : Kin ((w1.alloc (.cells #[.int .i64 i, .int .u32 0, .int .i64 0, .int .u32 0, .int .i64 0, .int .u16 0, .int .u16 65535, .int .u16 0, .int .u16 65535, .int .u8 0, .int .u8 0, .int .i64 a] 32))), y.val.cell? ⟨w1.heap.size, 10, none⟩ = some (.int .u8 0) := fun y => blk_cell (kbR y) rfl
    have kcR_11 : ∀ y : Kin ((w1.alloc (.cells #[.int .i64 i, .int .u32 0, .int .i64 0, .int .u32 0, .int .i64 0, .int .u16 0, .int .u16 65535, .int .u16 0, .int .u16 65535, .int .u8 0, .int .u8 0, .int .i64 a] 32))), y.val.cell? ⟨w1.heap.size, 11, none⟩ = some (.int .i64 a) := fun y => blk_cell (kbR y) rfl
    clear kbR
    have kbh : ∀ y : Kin ((w1.alloc (.cells #[.int .i64 i, .int .u32 0, .int .i64 0, .int .u32 0, .int .i64 0, .int .u16 0, .int .u16 65535, .int .u16 0, .int .u16 65535, .int .u8 0, .int .u8 0, .int .i64 a] 32))), y.val.heap[w.heap.size]? = some (.cells #[.int .u32 (h.s : Int), .int .u32 (h.d : Int), .int .u16 (h.p : Int), .int .u16 (h.q : Int), .int .u8 (h.r : Int)] 34) := fun y => blk_on (blk_alloc Hh.out _) y.is
    have kch_0 : ∀ y : Kin ((w1.alloc (.cells #[.int .i64 i, .int .u32 0, .int .i64 0, .int .u32 0, .int .i64 0, .int .u16 0, .int .u16 65535, .int .u16 0, .int .u16 65535, .int .u8 0, .int .u8 0, .int .i64 a] 32))), y.val.cell? ⟨w.heap.size, 0, none⟩ = some (.int .u32 (h.s : Int)) := fun y => blk_cell (kbh y) rfl
    have kch_1 : ∀ y : Kin ((w1.alloc (.cells #[.int .i64 i, .int .u32 0, .int .i64 0, .int .u32 0, .int .i64 0, .int .u16 0, .int .u16 65535, .int .u16 0, .int .u16 65535, .int .u8 0, .int .u8 0, .int .i64 a] 32))), y.val.cell? ⟨w.heap.size, 1, none⟩ = some (.int .u32 (h.d : Int)) := fun y => blk_cell (kbh y) rfl
    have kch_2 : ∀ y : Kin ((w1.alloc (.cells #[.int .i64 i, .int .u32 0, .int .i64 0, .int .u32 0, .int .i64 0, .int .u16 0, .int .u16 65535, .int .u16 0, .int .u16 65535, .int .u8 0, .int .u8 0, .int .i64 a] 32))), y.val.cell? ⟨w.heap.size, 2, none⟩ = some (.int .u16 (h.p : Int)) := fun y => blk_cell (kbh y) rfl
    have kch_3 : ∀ y : Kin ((w1.alloc (.cells #[.int .i64 i, .int .u32 0, .int .i64 0, .int .u32 0, .int .i64 0, .int .u16 0, .int .u16 65535, .int .u16 0, .int .u16 65535, .int .u8 0, .int .u8 0, .int .i64 a] 32))), y.val.cell? ⟨w.heap.size, 3, none⟩ = some (.int .u16 (h.q : Int)) := fun y => blk_cell (kbh y) rfl
    have kch_4 : ∀ y : Kin ((w1.alloc (.cells #[.int .i64 i, .int .u32 0, .int .i64 0, .int .u32 0, .int .i64 0, .int .u16 0, .int .u16 65535, .int .u16 0, .int .u16 65535, .int .u8 0, .int .u8 0, .int .i64 a] 32))), y.val.cell? ⟨w.heap.size, 4, none⟩ = some (.int .u8 (h.r : Int)) := fun y => blk_cell (kbh y) rfl
    clear kbh
    refine wp_region_kin ((w1.alloc (.cells #[.int .i64 i, .int .u32 0, .int .i64 0, .int .u32 0, .int .i64 0, .int .u16 0, .int .u16 65535, .int .u16 0, .int .u16 65535, .int .u8 0, .int .u8 0, .int .i64 a] 32))) (Below.refl _ _) (by kernel_rfl) (by kernel_rfl) ?_
    repeat (go_big_quiet_step (first | (go_at_call 15; exact kin_call (awakeR _)) | (go_at_call 23; exact kin_call (hRA _)) | (go_at_call 16; exact kin_call (hM _))))
    refine wpQuiet_nil ?_
    rintro wq ⟨⟨xq, hxq⟩, hyq⟩
    have hq : Below ((w1.alloc (.cells #[.int .i64 i, .int .u32 0, .int .i64 0, .int .u32 0, .int .i64 0, .int .u16 0, .int .u16 65535, .int .u16 0, .int .u16 65535, .int .u8 0, .int .u8 0, .int .i64 a] 32))).heap.size ((w1.alloc (.cells #[.int .i64 i, .int .u32 0, .int .i64 0, .int .u32 0, .int .i64 0, .int .u16 0, .int .u16 65535, .int .u16 0, .int .u16 65535, .int .u8 0, .int .u8 0, .int .i64 a] 32))) wq := by rw [hyq]; exact hxq
    clear hyq hxq xq kne kcR_0 kcR_1 kcR_2 kcR_3 kcR_4 kcR_5 kcR_6 kcR_7 kcR_8 kcR_9 kcR_10 kcR_11 kch_0 kch_1 kch_2 kch_3 kch_4
    have hblq : Hid (Below w.heap.size w wq) := bel_step hbl1.out (bel_a1 _ _) hq
    go_wp2_with (fail)
    go_ret
    exact ⟨ret_same (by simp), hblq.out⟩

set_option maxRecDepth 100000 in
theorem ruleAlls_lifted (os : Os) (started : os.Started) (H : Type) (enc : TypeId × Value → H) :
    ReturnsInHanded {} Tryz.checked os 5 .any (Rows.ruleAllsSpec.pre6 enc Tryz.prog Tryz.f5 Rows.ruleAllsRow.domain false) (Rows.ruleAllsSpec.post enc Tryz.prog Tryz.f5 false true false false) := by
  refine returnsInHanded_of_change (C := Tryz.checked) own started (by kernel_rfl) Tryz.func5
    (ChangeSpec.witness6 (enc := enc) (C := Tryz.checked) false ⟨#[], #[.int .i64 0, .int .i64 0, .agg #[.int .u32 0, .int .u32 0, .int .u16 0, .int .u16 0, .int .u8 0]], []⟩ 8 (by kernel_rfl) (by kernel_rfl) (by kernel_rfl) (by kernel_rfl)) ?_
  intro W base args ds gs before hval0 hW hcnd _
  have hval : ∀ (j : Nat) t v, Tryz.f5.params[j]? = some t → args[j]? = some v → Value.okWide Tryz.prog W .any base t v := hval0
  have hW' := hW
  obtain ⟨p, q, hA0, hV, rfl, hfz, hnd⟩ := hW
  have hA : DataW.TrodAll enc Tryz.prog W 0 (fun _ => true) true Tryz.f5.params.toList args.toList ds p := hA0
  rw [Tryz.params5] at hA hval
  obtain ⟨v0, vs0, d0, ds0, p0, q0, hargs, rfl, rfl, h0, r0⟩ := trodAll_cons hA
  obtain ⟨v1, vs1, d1, ds1, p1, q1, rfl, rfl, rfl, h1, r1⟩ := trodAll_cons r0
  obtain ⟨v2, vs2, d2, ds2, p2, q2, rfl, rfl, rfl, h2, r2⟩ := trodAll_cons r1
  obtain ⟨rfl, rfl, rfl⟩ := trodAll_nil r2
  obtain rfl : args = #[v0, v1, v2] := by cases args; simp_all
  obtain ⟨rfl, rfl⟩ := trodVars_none hV
  obtain ⟨a0, rfl, rfl, rfl, w0⟩ := open_int Tryz.underlying3 (hval 0 3 v0 rfl rfl) h0
  obtain ⟨a1, rfl, rfl, rfl, w1⟩ := open_int Tryz.underlying30 (hval 1 30 v1 rfl rfl) h1
  obtain ⟨g2, rfl, rfl, rfl, o2⟩ := open_hd (hval 2 34 v2 rfl rfl) h2
  clear hA0 hval0
  simp only [List.append_nil] at hW'
  refine (ruleAlls_walk a0 w0 a1 w1 g2 o2 W ).mono fun e W' ⟨he, bel⟩ => ?_
  subst he
  exact ⟨_, rfl, _, _, _, [], _, [], hW', trodAll_mk1 (shut_bool Tryz.underlying4 _), (trodAll_cons_mk (shut_int Tryz.underlying3 w0) (trodAll_cons_mk (shut_int Tryz.underlying30 w1) (trodAll_cons_mk (shut_hd o2) trodAll_mk0))), rfl, bel.frame _, fun h => by cases h⟩

/-- The given statement. -/
theorem ruleAlls_holds : Rows.RuleAllsSaid :=
  OpenClaim.holds_of_wide 5 Tryz.f5 rfl rfl rfl rfl rfl rfl rfl ⟨rfl, rfl, rfl, rfl, rfl⟩ rfl rfl rfl rfl rfl (by kernel_rfl) Tryz.func5 (by kernel_rfl)
    (of_decide_eq_true (by kernel_rfl)) (by unfold Func.isWrapper; first | (rw [if_pos (by decide +kernel)]; kernel_rfl) | (rw [if_neg (by decide +kernel)]; exact ⟨rfl, rfl⟩))
    (fun os started H enc _ => ruleAlls_lifted os started H enc)
#print axioms ruleAlls_holds
end Go.Proofs.YtebljklpkoheaaaGreat
