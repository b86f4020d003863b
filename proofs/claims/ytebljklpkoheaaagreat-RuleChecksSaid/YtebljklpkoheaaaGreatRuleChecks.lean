/-
  For any rule and header, rule.Check, Match, Box and Count answer as the document says (P8.1, P8.2, P8.3); and the examples of the document hold.
  Conditions: none; the law holds for every input.
-/
import Derived.Test.YtebljklpkoheaaaGreatRuAw
import Derived.Test.YtebljklpkoheaaaGreatRuRd
import Derived.Test.YtebljklpkoheaaaGreatRuRe
import Derived.Test.YtebljklpkoheaaaGreatRuFrame
namespace Go.Proofs.YtebljklpkoheaaaGreat
open Go.ChangeShapes Go.WideShapes Go.ChangeAt Go.RowKit Go.Joins
set_option linter.unusedVariables false
set_option linter.unusedSimpArgs false

set_option maxRecDepth 20000 in
set_option maxHeartbeats 8000000 in
theorem ruleChecks_walk (R : Ru) (bR : BdR R) (h : Hd) (oh : OkH h) (w : World) :
    Calls Tryz.prog 3 #[.agg #[.int .i64 R.i, .int .u32 (R.s : Int), .int .i64 R.sl, .int .u32 (R.d : Int), .int .i64 R.dl, .int .u16 (R.p.1 : Int), .int .u16 (R.p.2 : Int), .int .u16 (R.q.1 : Int), .int .u16 (R.q.2 : Int), .int .u8 (R.m.1 : Int), .int .u8 (R.m.2 : Int), .int .i64 R.act], .agg #[.int .u32 (h.s : Int), .int .u32 (h.d : Int), .int .u16 (h.p : Int), .int .u16 (h.q : Int), .int .u8 (h.r : Int)]] w fun e w' => e = .returned (.bool true) ∧ Below w.heap.size w w' := by
  have h1 := fun W => checkRC R W bR
  have h2 := fun W => rcheckR R W bR
  have h3 := fun W => boxC R W bR
  have h4 := fun W => rboxR R W bR
  have h5 := fun W => countRC R W bR
  have h6 := fun W => rcountR R W bR
  have h7 := fun W => matchC R h W bR oh
  have h8 := fun W => rmatchR R h W bR oh
  have hk : ∀ W, Sem.run Tryz.prog (binOp .eql 41 (.agg #[.int .u32 ((boxA R).a.1 : Int), .int .u32 ((boxA R).a.2 : Int), .int .u32 ((boxA R).b.1 : Int), .int .u32 ((boxA R).b.2 : Int), .int .u16 ((boxA R).c.1 : Int), .int .u16 ((boxA R).c.2 : Int), .int .u16 ((boxA R).d.1 : Int), .int .u16 ((boxA R).d.2 : Int), .int .u8 ((boxA R).m.1 : Int), .int .u8 ((boxA R).m.2 : Int)]) (.agg #[.int .u32 ((boxA R).a.1 : Int), .int .u32 ((boxA R).a.2 : Int), .int .u32 ((boxA R).b.1 : Int), .int .u32 ((boxA R).b.2 : Int), .int .u16 ((boxA R).c.1 : Int), .int .u16 ((boxA R).c.2 : Int), .int .u16 ((boxA R).d.1 : Int), .int .u16 ((boxA R).d.2 : Int), .int .u8 ((boxA R).m.1 : Int), .int .u8 ((boxA R).m.2 : Int)])) W = .ok (.bool true) W := fun W => by have e := eqX_any (boxA R) (boxA R) W; rw [decide_eq_true rfl] at e; exact e
  generalize boxA R = X at *
  generalize (errs R).1 = c at *
  generalize (errs R).2 = d at *
  generalize hiW (cntR R) = p at *
  generalize loW (cntR R) = q at *
  generalize matchR R h = r at *
  clear bR oh
  go_enter Tryz.func3, Tryz.ntmps3
  go_wp2_with (fail)
  refine (h1 _).mono ?_
  rintro e w1 ⟨rfl, hb1⟩
  have GR : Hid (w1.heap[w.heap.size]? = some (.cells #[.int .i64 R.i, .int .u32 (R.s : Int), .int .i64 R.sl, .int .u32 (R.d : Int), .int .i64 R.dl, .int .u16 (R.p.1 : Int), .int .u16 (R.p.2 : Int), .int .u16 (R.q.1 : Int), .int .u16 (R.q.2 : Int), .int .u8 (R.m.1 : Int), .int .u8 (R.m.2 : Int), .int .i64 R.act] 32)) := blk_on (blk_alloc (blk_new w (.cells #[.int .i64 R.i, .int .u32 (R.s : Int), .int .i64 R.sl, .int .u32 (R.d : Int), .int .i64 R.dl, .int .u16 (R.p.1 : Int), .int .u16 (R.p.2 : Int), .int .u16 (R.q.1 : Int), .int .u16 (R.q.2 : Int), .int .u8 (R.m.1 : Int), .int .u8 (R.m.2 : Int), .int .i64 R.act] 32)) _) hb1
  have Gh : Hid (w1.heap[w.heap.size + 1]? = some (.cells #[.int .u32 (h.s : Int), .int .u32 (h.d : Int), .int .u16 (h.p : Int), .int .u16 (h.q : Int), .int .u8 (h.r : Int)] 34)) := blk_on (by simpa using blk_new (w.alloc (.cells #[.int .i64 R.i, .int .u32 (R.s : Int), .int .i64 R.sl, .int .u32 (R.d : Int), .int .i64 R.dl, .int .u16 (R.p.1 : Int), .int .u16 (R.p.2 : Int), .int .u16 (R.q.1 : Int), .int .u16 (R.q.2 : Int), .int .u8 (R.m.1 : Int), .int .u8 (R.m.2 : Int), .int .i64 R.act] 32)) (.cells #[.int .u32 (h.s : Int), .int .u32 (h.d : Int), .int .u16 (h.p : Int), .int .u16 (h.q : Int), .int .u8 (h.r : Int)] 34)) hb1
  have HO1 : Hid (w.heap.size + 1 < w1.heap.size) := blk_lt Gh.out
  have hbl1 : Hid (Below w.heap.size w w1) := bel_step (Below.refl _ _) (bel_a2 _ _ _) hb1
  clear hb1
  have HR := GR
  clear GR
  have Hh := Gh
  clear Gh
  have lR := blk_lt HR.out
  have nR : ¬ w.heap.size = w1.heap.size := by omega
  have lh := blk_lt Hh.out
  have nh : ¬ w.heap.size + 1 = w1.heap.size := by omega
  obtain ⟨R_0, R_1, R_2, R_3, R_4, R_5, R_6, R_7, R_8, R_9, R_10, R_11⟩ := blk12 HR.out
  go_wp2_with (fail)
  refine (h2 _).mono ?_
  rintro e w2 ⟨rfl, hb2⟩
  have GR : Hid (w2.heap[w.heap.size]? = some (.cells #[.int .i64 R.i, .int .u32 (R.s : Int), .int .i64 R.sl, .int .u32 (R.d : Int), .int .i64 R.dl, .int .u16 (R.p.1 : Int), .int .u16 (R.p.2 : Int), .int .u16 (R.q.1 : Int), .int .u16 (R.q.2 : Int), .int .u8 (R.m.1 : Int), .int .u8 (R.m.2 : Int), .int .i64 R.act] 32)) := blk_on HR.out hb2
  have Gh : Hid (w2.heap[w.heap.size + 1]? = some (.cells #[.int .u32 (h.s : Int), .int .u32 (h.d : Int), .int .u16 (h.p : Int), .int .u16 (h.q : Int), .int .u8 (h.r : Int)] 34)) := blk_on Hh.out hb2
  have hbl2 : Hid (Below w.heap.size w w2) := bel_step hbl1.out (bel_a0 _) hb2
  clear HR Hh R_0 R_1 R_2 R_3 R_4 R_5 R_6 R_7 R_8 R_9 R_10 R_11 lR nR lh nh hb2 hbl1
  have HR := GR
  clear GR
  have Hh := Gh
  clear Gh
  have lR := blk_lt HR.out
  have nR : ¬ w.heap.size = w2.heap.size := by omega
  have lh := blk_lt Hh.out
  have nh : ¬ w.heap.size + 1 = w2.heap.size := by omega
  obtain ⟨R_0, R_1, R_2, R_3, R_4, R_5, R_6, R_7, R_8, R_9, R_10, R_11⟩ := blk12 HR.out
  go_wp2_with (fail)
  refine (h3 _).mono ?_
  rintro e w3 ⟨rfl, hb3⟩
  have GR : Hid (w3.heap[w.heap.size]? = some (.cells #[.int .i64 R.i, .int .u32 (R.s : Int), .int .i64 R.sl, .int .u32 (R.d : Int), .int .i64 R.dl, .int .u16 (R.p.1 : Int), .int .u16 (R.p.2 : Int), .int .u16 (R.q.1 : Int), .int .u16 (R.q.2 : Int), .int .u8 (R.m.1 : Int), .int .u8 (R.m.2 : Int), .int .i64 R.act] 32)) := blk_on HR.out hb3
  have Gh : Hid (w3.heap[w.heap.size + 1]? = some (.cells #[.int .u32 (h.s : Int), .int .u32 (h.d : Int), .int .u16 (h.p : Int), .int .u16 (h.q : Int), .int .u8 (h.r : Int)] 34)) := blk_on Hh.out hb3
  have hbl3 : Hid (Below w.heap.size w w3) := bel_step hbl2.out (bel_a0 _) hb3
  clear HR Hh R_0 R_1 R_2 R_3 R_4 R_5 R_6 R_7 R_8 R_9 R_10 R_11 lR nR lh nh hb3 hbl2
  have HR := GR
  clear GR
  have Hh := Gh
  clear Gh
  have lR := blk_lt HR.out
  have nR : ¬ w.heap.size = w3.heap.size := by omega
  have lh := blk_lt Hh.out
  have nh : ¬ w.heap.size + 1 = w3.heap.size := by omega
  obtain ⟨R_0, R_1, R_2, R_3, R_4, R_5, R_6, R_7, R_8, R_9, R_10, R_11⟩ := blk12 HR.out
  go_wp2_with (fail)
  refine (h4 _).mono ?_
  rintro e w4 ⟨rfl, hb4⟩
  have GR : Hid (w4.heap[w.heap.size]? = some (.cells #[.int .i64 R.i, .int .u32 (R.s : Int), .int .i64 R.sl, .int .u32 (R.d : Int), .int .i64 R.dl, .int .u16 (R.p.1 : Int), .int .u16 (R.p.2 : Int), .int .u16 (R.q.1 : Int), .int .u16 (R.q.2 : Int), .int .u8 (R.m.1 : Int), .int .u8 (R.m.2 : Int), .int .i64 R.act] 32)) := blk_on (blk_alloc HR.out _) hb4
  have Gh : Hid (w4.heap[w.heap.size + 1]? = some (.cells #[.int .u32 (h.s : Int), .int .u32 (h.d : Int), .int .u16 (h.p : Int), .int .u16 (h.q : Int), .int .u8 (h.r : Int)] 34)) := blk_on (blk_alloc Hh.out _) hb4
  have GX : Hid (w4.heap[w3.heap.size]? = some (.cells #[.int .u32 (X.a.1 : Int), .int .u32 (X.a.2 : Int), .int .u32 (X.b.1 : Int), .int .u32 (X.b.2 : Int), .int .u16 (X.c.1 : Int), .int .u16 (X.c.2 : Int), .int .u16 (X.d.1 : Int), .int .u16 (X.d.2 : Int), .int .u8 (X.m.1 : Int), .int .u8 (X.m.2 : Int)] 41)) := blk_on (blk_new w3 (.cells #[.int .u32 (X.a.1 : Int), .int .u32 (X.a.2 : Int), .int .u32 (X.b.1 : Int), .int .u32 (X.b.2 : Int), .int .u16 (X.c.1 : Int), .int .u16 (X.c.2 : Int), .int .u16 (X.d.1 : Int), .int .u16 (X.d.2 : Int), .int .u8 (X.m.1 : Int), .int .u8 (X.m.2 : Int)] 41)) hb4
  have HO4 : Hid (w3.heap.size < w4.heap.size) := blk_lt GX.out
  have hbl4 : Hid (Below w.heap.size w w4) := bel_step hbl3.out (bel_a1 _ _) hb4
  clear HR Hh R_0 R_1 R_2 R_3 R_4 R_5 R_6 R_7 R_8 R_9 R_10 R_11 lR nR lh nh hb4 hbl3
  have HR := GR
  clear GR
  have Hh := Gh
  clear Gh
  have HX := GX
  clear GX
  have lR := blk_lt HR.out
  have nR : ¬ w.heap.size = w4.heap.size := by omega
  have lh := blk_lt Hh.out
  have nh : ¬ w.heap.size + 1 = w4.heap.size := by omega
  have lX := blk_lt HX.out
  have nX : ¬ w3.heap.size = w4.heap.size := by omega
  obtain ⟨R_0, R_1, R_2, R_3, R_4, R_5, R_6, R_7, R_8, R_9, R_10, R_11⟩ := blk12 HR.out
  go_wp2_with (fail)
  refine (h5 _).mono ?_
  rintro e w5 ⟨rfl, hb5⟩
  have GR : Hid (w5.heap[w.heap.size]? = some (.cells #[.int .i64 R.i, .int .u32 (R.s : Int), .int .i64 R.sl, .int .u32 (R.d : Int), .int .i64 R.dl, .int .u16 (R.p.1 : Int), .int .u16 (R.p.2 : Int), .int .u16 (R.q.1 : Int), .int .u16 (R.q.2 : Int), .int .u8 (R.m.1 : Int), .int .u8 (R.m.2 : Int), .int .i64 R.act] 32)) := blk_on (blk_alloc HR.out _) hb5
  have Gh : Hid (w5.heap[w.heap.size + 1]? = some (.cells #[.int .u32 (h.s : Int), .int .u32 (h.d : Int), .int .u16 (h.p : Int), .int .u16 (h.q : Int), .int .u8 (h.r : Int)] 34)) := blk_on (blk_alloc Hh.out _) hb5
  have GX : Hid (w5.heap[w3.heap.size]? = some (.cells #[.int .u32 (X.a.1 : Int), .int .u32 (X.a.2 : Int), .int .u32 (X.b.1 : Int), .int .u32 (X.b.2 : Int), .int .u16 (X.c.1 : Int), .int .u16 (X.c.2 : Int), .int .u16 (X.d.1 : Int), .int .u16 (X.d.2 : Int), .int .u8 (X.m.1 : Int), .int .u8 (X.m.2 : Int)] 41)) := blk_on (blk_alloc HX.out _) hb5
  have GY : Hid (w5.heap[w4.heap.size]? = some (.cells #[.int .u32 (X.a.1 : Int), .int .u32 (X.a.2 : Int), .int .u32 (X.b.1 : Int), .int .u32 (X.b.2 : Int), .int .u16 (X.c.1 : Int), .int .u16 (X.c.2 : Int), .int .u16 (X.d.1 : Int), .int .u16 (X.d.2 : Int), .int .u8 (X.m.1 : Int), .int .u8 (X.m.2 : Int)] 41)) := blk_on (blk_new w4 (.cells #[.int .u32 (X.a.1 : Int), .int .u32 (X.a.2 : Int), .int .u32 (X.b.1 : Int), .int .u32 (X.b.2 : Int), .int .u16 (X.c.1 : Int), .int .u16 (X.c.2 : Int), .int .u16 (X.d.1 : Int), .int .u16 (X.d.2 : Int), .int .u8 (X.m.1 : Int), .int .u8 (X.m.2 : Int)] 41)) hb5
  have HO5 : Hid (w4.heap.size < w5.heap.size) := blk_lt GY.out
  have hbl5 : Hid (Below w.heap.size w w5) := bel_step hbl4.out (bel_a1 _ _) hb5
  clear HR Hh HX R_0 R_1 R_2 R_3 R_4 R_5 R_6 R_7 R_8 R_9 R_10 R_11 lR nR lh nh lX nX hb5 hbl4
  have HR := GR
  clear GR
  have Hh := Gh
  clear Gh
  have HX := GX
  clear GX
  have HY := GY
  clear GY
  have lR := blk_lt HR.out
  have nR : ¬ w.heap.size = w5.heap.size := by omega
  have lh := blk_lt Hh.out
  have nh : ¬ w.heap.size + 1 = w5.heap.size := by omega
  have lX := blk_lt HX.out
  have nX : ¬ w3.heap.size = w5.heap.size := by omega
  have lY := blk_lt HY.out
  have nY : ¬ w4.heap.size = w5.heap.size := by omega
  obtain ⟨R_0, R_1, R_2, R_3, R_4, R_5, R_6, R_7, R_8, R_9, R_10, R_11⟩ := blk12 HR.out
  go_wp2_with (fail)
  refine (h6 _).mono ?_
  rintro e w6 ⟨rfl, hb6⟩
  have GR : Hid (w6.heap[w.heap.size]? = some (.cells #[.int .i64 R.i, .int .u32 (R.s : Int), .int .i64 R.sl, .int .u32 (R.d : Int), .int .i64 R.dl, .int .u16 (R.p.1 : Int), .int .u16 (R.p.2 : Int), .int .u16 (R.q.1 : Int), .int .u16 (R.q.2 : Int), .int .u8 (R.m.1 : Int), .int .u8 (R.m.2 : Int), .int .i64 R.act] 32)) := blk_on HR.out hb6
  have Gh : Hid (w6.heap[w.heap.size + 1]? = some (.cells #[.int .u32 (h.s : Int), .int .u32 (h.d : Int), .int .u16 (h.p : Int), .int .u16 (h.q : Int), .int .u8 (h.r : Int)] 34)) := blk_on Hh.out hb6
  have GX : Hid (w6.heap[w3.heap.size]? = some (.cells #[.int .u32 (X.a.1 : Int), .int .u32 (X.a.2 : Int), .int .u32 (X.b.1 : Int), .int .u32 (X.b.2 : Int), .int .u16 (X.c.1 : Int), .int .u16 (X.c.2 : Int), .int .u16 (X.d.1 : Int), .int .u16 (X.d.2 : Int), .int .u8 (X.m.1 : Int), .int .u8 (X.m.2 : Int)] 41)) := blk_on HX.out hb6
  have GY : Hid (w6.heap[w4.heap.size]? = some (.cells #[.int .u32 (X.a.1 : Int), .int .u32 (X.a.2 : Int), .int .u32 (X.b.1 : Int), .int .u32 (X.b.2 : Int), .int .u16 (X.c.1 : Int), .int .u16 (X.c.2 : Int), .int .u16 (X.d.1 : Int), .int .u16 (X.d.2 : Int), .int .u8 (X.m.1 : Int), .int .u8 (X.m.2 : Int)] 41)) := blk_on HY.out hb6
  have hbl6 : Hid (Below w.heap.size w w6) := bel_step hbl5.out (bel_a0 _) hb6
  clear HR Hh HX HY R_0 R_1 R_2 R_3 R_4 R_5 R_6 R_7 R_8 R_9 R_10 R_11 lR nR lh nh lX nX lY nY hb6 hbl5
  have HR := GR
  clear GR
  have Hh := Gh
  clear Gh
  have HX := GX
  clear GX
  have HY := GY
  clear GY
  have lR := blk_lt HR.out
  have nR : ¬ w.heap.size = w6.heap.size := by omega
  have lh := blk_lt Hh.out
  have nh : ¬ w.heap.size + 1 = w6.heap.size := by omega
  have lX := blk_lt HX.out
  have nX : ¬ w3.heap.size = w6.heap.size := by omega
  have lY := blk_lt HY.out
  have nY : ¬ w4.heap.size = w6.heap.size := by omega
  go_upto_region 7 with (fail)
  have kne : Nonempty (Kin (w6)) := ⟨⟨_, Below.refl _ _⟩⟩
  have kbR : ∀ y : Kin (w6), y.val.heap[w.heap.size]? = some (.cells #[.int .i64 R.i, .int .u32 (R.s : Int), .int .i64 R.sl, .int .u32 (R.d : Int), .int .i64 R.dl, .int .u16 (R.p.1 : Int), .int .u16 (R.p.2 : Int), .int .u16 (R.q.1 : Int), .int .u16 (R.q.2 : Int), .int .u8 (R.m.1 : Int), .int .u8 (R.m.2 : Int), .int .i64 R.act] 32) := fun y => blk_on HR.out y.is
  have kcR_0 : ∀ y : Kin (w6), y.val.cell? ⟨w.heap.size, 0, none⟩ = some (.int .i64 R.i) := fun y => blk_cell (kbR y) rfl
  have kcR_1 : ∀ y : Kin (w6), y.val.cell? ⟨w.heap.size, 1, none⟩ = some (.int .u32 (R.s : Int)) := fun y => blk_cell (kbR y) rfl
  have kcR_2 : ∀ y : Kin (w6), y.val.cell? ⟨w.heap.size, 2, none⟩ = some (.int .i64 R.sl) := fun y => blk_cell (kbR y) rfl
  have kcR_3 : ∀ y : Kin (w6), y.val.cell? ⟨w.heap.size, 3, none⟩ = some (.int .u32 (R.d : Int)) := fun y => blk_cell (kbR y) rfl
  have kcR_4 : ∀ y : Kin (w6), y.val.cell? ⟨w.heap.size, 4, none⟩ = some (.int .i64 R.dl) := fun y => blk_cell (kbR y) rfl
  have kcR_5 : ∀ y : Kin (w6), y.val.cell? ⟨w.heap.size, 5, none⟩ = some (.int .u16 (R.p.1 : Int)) := fun y => blk_cell (kbR y) rfl
  have kcR_6 : ∀ y : Kin (w6), y.val.cell? ⟨w.heap.size, 6, none⟩ = some (.int .u16 (R.p.2 : Int)) := fun y => blk_cell (kbR y) rfl
  have kcR_7 : ∀ y : Kin (w6), y.val.cell? ⟨w.heap.size, 7, none⟩ = some (.int .u16 (R.q.1 : Int)) := fun y => blk_cell (kbR y) rfl
  have kcR_8 : ∀ y : Kin (w6), y.val.cell? ⟨w.heap.size, 8, none⟩ = some (.int .u16 (R.q.2 : Int)) := fun y => blk_cell (kbR y) rfl
  have kcR_9 : ∀ y : Kin (w6), y.val.cell? ⟨w.heap.size, 9, none⟩ = some (.int .u8 (R.m.1 : Int)) := fun y => blk_cell (kbR y) rfl
  have kcR_10 : ∀ y : Kin (w6), y.val.cell? ⟨w.heap.size, 10, none⟩ = some (.int .u8 (R.m.2 : Int)) := fun y => blk_cell (kbR y) rfl
  have kcR_11 : ∀ y : Kin (w6), y.val.cell? ⟨w.heap.size, 11, none⟩ = some (.int .i64 R.act) := fun y => blk_cell (kbR y) rfl
  clear kbR
  have kbh : ∀ y : Kin (w6), y.val.heap[w.heap.size + 1]? = some (.cells #[.int .u32 (h.s : Int), .int .u32 (h.d : Int), .int .u16 (h.p : Int), .int .u16 (h.q : Int), .int .u8 (h.r : Int)] 34) := fun y => blk_on Hh.out y.is
  have kch_0 : ∀ y : Kin (w6), y.val.cell? ⟨w.heap.size + 1, 0, none⟩ = some (.int .u32 (h.s : Int)) := fun y => blk_cell (kbh y) rfl
  have kch_1 : ∀ y : Kin (w6), y.val.cell? ⟨w.heap.size + 1, 1, none⟩ = some (.int .u32 (h.d : Int)) := fun y => blk_cell (kbh y) rfl
  have kch_2 : ∀ y : Kin (w6), y.val.cell? ⟨w.heap.size + 1, 2, none⟩ = some (.int .u16 (h.p : Int)) := fun y => blk_cell (kbh y) rfl
  have kch_3 : ∀ y : Kin (w6), y.val.cell? ⟨w.heap.size + 1, 3, none⟩ = some (.int .u16 (h.q : Int)) := fun y => blk_cell (kbh y) rfl
  have kch_4 : ∀ y : Kin (w6), y.val.cell? ⟨w.heap.size + 1, 4, none⟩ = some (.int .u8 (h.r : Int)) := fun y => blk_cell (kbh y) rfl
  clear kbh
  have kbX : ∀ y : Kin (w6), y.val.heap[w3.heap.size]? = some (.cells #[.int .u32 (X.a.1 : Int), .int .u32 (X.a.2 : Int), .int .u32 (X.b.1 : Int), .int .u32 (X.b.2 : Int), .int .u16 (X.c.1 : Int), .int .u16 (X.c.2 : Int), .int .u16 (X.d.1 : Int), .int .u16 (X.d.2 : Int), .int .u8 (X.m.1 : Int), .int .u8 (X.m.2 : Int)] 41) := fun y => blk_on HX.out y.is
  have kcX_0 : ∀ y : Kin (w6), y.val.cell? ⟨w3.heap.size, 0, none⟩ = some (.int .u32 (X.a.1 : Int)) := fun y => blk_cell (kbX y) rfl
  have kcX_1 : ∀ y : Kin (w6), y.val.cell? ⟨w3.heap.size, 1, none⟩ = some (.int .u32 (X.a.2 : Int)) := fun y => blk_cell (kbX y) rfl
  have kcX_2 : ∀ y : Kin (w6), y.val.cell? ⟨w3.heap.size, 2, none⟩ = some (.int .u32 (X.b.1 : Int)) := fun y => blk_cell (kbX y) rfl
  have kcX_3 : ∀ y : Kin (w6), y.val.cell? ⟨w3.heap.size, 3, none⟩ = some (.int .u32 (X.b.2 : Int)) := fun y => blk_cell (kbX y) rfl
  have kcX_4 : ∀ y : Kin (w6), y.val.cell? ⟨w3.heap.size, 4, none⟩ = some (.int .u16 (X.c.1 : Int)) := fun y => blk_cell (kbX y) rfl
  have kcX_5 : ∀ y : Kin (w6), y.val.cell? ⟨w3.heap.size, 5, none⟩ = some (.int .u16 (X.c.2 : Int)) := fun y => blk_cell (kbX y) rfl
  have kcX_6 : ∀ y : Kin (w6), y.val.cell? ⟨w3.heap.size, 6, none⟩ = some (.int .u16 (X.d.1 : Int)) := fun y => blk_cell (kbX y) rfl
  have kcX_7 : ∀ y : Kin (w6), y.val.cell? ⟨w3.heap.size, 7, none⟩ = some (.int .u16 (X.d.2 : Int)) := fun y => blk_cell (kbX y) rfl
  have kcX_8 : ∀ y : Kin (w6), y.val.cell? ⟨w3.heap.size, 8, none⟩ = some (.int .u8 (X.m.1 : Int)) := fun y => blk_cell (kbX y) rfl
  have kcX_9 : ∀ y : Kin (w6), y.val.cell? ⟨w3.heap.size, 9, none⟩ = some (.int .u8 (X.m.2 : Int)) := fun y => blk_cell (kbX y) rfl
  clear kbX
  have kbY : ∀ y : Kin (w6), y.val.heap[w4.heap.size]? = some (.cells #[.int .u32 (X.a.1 : Int), .int .u32 (X.a.2 : Int), .int .u32 (X.b.1 : Int), .int .u32 (X.b.2 : Int), .int .u16 (X.c.1 : Int), .int .u16 (X.c.2 : Int), .int .u16 (X.d.1 : Int), .int .u16 (X.d.2 : Int), .int .u8 (X.m.1 : Int), .int .u8 (X.m.2 : Int)] 41) := fun y => blk_on HY.out y.is
  have kcY_0 : ∀ y : Kin (w6), y.val.cell? ⟨w4.heap.size, 0, none⟩ = some (.int .u32 (X.a.1 : Int)) := fun y => blk_cell (kbY y) rfl
  have kcY_1 : ∀ y : Kin (w6), y.val.cell? ⟨w4.heap.size, 1, none⟩ = some (.int .u32 (X.a.2 : Int)) := fun y => blk_cell (kbY y) rfl
  have kcY_2 : ∀ y : Kin (w6), y.val.cell? ⟨w4.heap.size, 2, none⟩ = some (.int .u32 (X.b.1 : Int)) := fun y => blk_cell (kbY y) rfl
  have kcY_3 : ∀ y : Kin (w6), y.val.cell? ⟨w4.heap.size, 3, none⟩ = some (.int .u32 (X.b.2 : Int)) := fun y => blk_cell (kbY y) rfl
  have kcY_4 : ∀ y : Kin (w6), y.val.cell? ⟨w4.heap.size, 4, none⟩ = some (.int .u16 (X.c.1 : Int)) := fun y => blk_cell (kbY y) rfl
  have kcY_5 : ∀ y : Kin (w6), y.val.cell? ⟨w4.heap.size, 5, none⟩ = some (.int .u16 (X.c.2 : Int)) := fun y => blk_cell (kbY y) rfl
  have kcY_6 : ∀ y : Kin (w6), y.val.cell? ⟨w4.heap.size, 6, none⟩ = some (.int .u16 (X.d.1 : Int)) := fun y => blk_cell (kbY y) rfl
  have kcY_7 : ∀ y : Kin (w6), y.val.cell? ⟨w4.heap.size, 7, none⟩ = some (.int .u16 (X.d.2 : Int)) := fun y => blk_cell (kbY y) rfl
  have kcY_8 : ∀ y : Kin (w6), y.val.cell? ⟨w4.heap.size, 8, none⟩ = some (.int .u8 (X.m.1 : Int)) := fun y => blk_cell (kbY y) rfl
  have kcY_9 : ∀ y : Kin (w6), y.val.cell? ⟨w4.heap.size, 9, none⟩ = some (.int .u8 (X.m.2 : Int)) := fun y => blk_cell (kbY y) rfl
  clear kbY
  refine wp_region_kin (w6) (Below.refl _ _) (by kernel_rfl) (by kernel_rfl) ?_
  repeat (go_big_quiet_step (first | (go_at_call 15; exact kin_call (awakeR _)) | (go_at_call 16; exact kin_call (h7 _)) | (go_at_call 17; exact kin_call (h8 _))))
  refine wpQuiet_nil ?_
  rintro wq ⟨⟨xq, hxq⟩, hyq⟩
  have hq : Below (w6).heap.size (w6) wq := by rw [hyq]; exact hxq
  clear hyq hxq xq kne kcR_0 kcR_1 kcR_2 kcR_3 kcR_4 kcR_5 kcR_6 kcR_7 kcR_8 kcR_9 kcR_10 kcR_11 kch_0 kch_1 kch_2 kch_3 kch_4 kcX_0 kcX_1 kcX_2 kcX_3 kcX_4 kcX_5 kcX_6 kcX_7 kcX_8 kcX_9 kcY_0 kcY_1 kcY_2 kcY_3 kcY_4 kcY_5 kcY_6 kcY_7 kcY_8 kcY_9
  have hblq : Hid (Below w.heap.size w wq) := bel_step hbl6.out (bel_a0 _) hq
  go_wp2_with (fail)
  go_ret
  exact ⟨ret_same (by simp), hblq.out⟩

set_option maxRecDepth 100000 in
theorem ruleChecks_lifted (os : Os) (started : os.Started) (H : Type) (enc : TypeId × Value → H) :
    ReturnsInHanded {} Tryz.checked os 3 .any (Rows.ruleChecksSpec.pre6 enc Tryz.prog Tryz.f3 Rows.ruleChecksRow.domain false) (Rows.ruleChecksSpec.post enc Tryz.prog Tryz.f3 false true false false) := by
  refine returnsInHanded_of_change (C := Tryz.checked) own started (by kernel_rfl) Tryz.func3
    (ChangeSpec.witness6 (enc := enc) (C := Tryz.checked) false ⟨#[], #[.agg #[.int .i64 0, .int .u32 0, .int .i64 0, .int .u32 0, .int .i64 0, .int .u16 0, .int .u16 0, .int .u16 0, .int .u16 0, .int .u8 0, .int .u8 0, .int .i64 0], .agg #[.int .u32 0, .int .u32 0, .int .u16 0, .int .u16 0, .int .u8 0]], []⟩ 8 (by kernel_rfl) (by kernel_rfl) (by kernel_rfl) (by kernel_rfl)) ?_
  intro W base args ds gs before hval0 hW hcnd _
  have hval : ∀ (j : Nat) t v, Tryz.f3.params[j]? = some t → args[j]? = some v → Value.okWide Tryz.prog W .any base t v := hval0
  have hW' := hW
  obtain ⟨p, q, hA0, hV, rfl, hfz, hnd⟩ := hW
  have hA : DataW.TrodAll enc Tryz.prog W 0 (fun _ => true) true Tryz.f3.params.toList args.toList ds p := hA0
  rw [Tryz.params3] at hA hval
  obtain ⟨v0, vs0, d0, ds0, p0, q0, hargs, rfl, rfl, h0, r0⟩ := trodAll_cons hA
  obtain ⟨v1, vs1, d1, ds1, p1, q1, rfl, rfl, rfl, h1, r1⟩ := trodAll_cons r0
  obtain ⟨rfl, rfl, rfl⟩ := trodAll_nil r1
  obtain rfl : args = #[v0, v1] := by cases args; simp_all
  obtain ⟨rfl, rfl⟩ := trodVars_none hV
  obtain ⟨g0, rfl, rfl, rfl, o0⟩ := open_ru (hval 0 32 v0 rfl rfl) h0
  obtain ⟨g1, rfl, rfl, rfl, o1⟩ := open_hd (hval 1 34 v1 rfl rfl) h1
  clear hA0 hval0
  simp only [List.append_nil] at hW'
  refine (ruleChecks_walk g0 o0 g1 o1 W ).mono fun e W' ⟨he, bel⟩ => ?_
  subst he
  exact ⟨_, rfl, _, _, _, [], _, [], hW', trodAll_mk1 (shut_bool Tryz.underlying4 _), (trodAll_cons_mk (shut_ru o0) (trodAll_cons_mk (shut_hd o1) trodAll_mk0)), rfl, bel.frame _, fun h => by cases h⟩

/-- The given statement. -/
theorem ruleChecks_holds : Rows.RuleChecksSaid :=
  OpenClaim.holds_of_wide 3 Tryz.f3 rfl rfl rfl rfl rfl rfl rfl ⟨rfl, rfl, rfl, rfl, rfl⟩ rfl rfl rfl rfl rfl (by kernel_rfl) Tryz.func3 (by kernel_rfl)
    (of_decide_eq_true (by kernel_rfl)) (by unfold Func.isWrapper; first | (rw [if_pos (by decide +kernel)]; kernel_rfl) | (rw [if_neg (by decide +kernel)]; exact ⟨rfl, rfl⟩))
    (fun os started H enc _ => ruleChecks_lifted os started H enc)
#print axioms ruleChecks_holds
end Go.Proofs.YtebljklpkoheaaaGreat
