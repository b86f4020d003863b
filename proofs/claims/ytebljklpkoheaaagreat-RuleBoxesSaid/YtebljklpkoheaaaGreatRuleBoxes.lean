/-
  For any rule and header: the rule matches just what its box has, both count alike, and it matches its box's first header (P8.6); and the examples of the document hold.
  Conditions: none; the law holds for every input.
-/
import Derived.Test.YtebljklpkoheaaaGreatRuAw
import Derived.Test.YtebljklpkoheaaaGreatRuFrame
namespace Go.Proofs.YtebljklpkoheaaaGreat
open Go.ChangeShapes Go.WideShapes Go.ChangeAt Go.RowKit Go.Joins
set_option linter.unusedVariables false
set_option linter.unusedSimpArgs false

set_option maxRecDepth 20000 in
set_option maxHeartbeats 4000000 in
theorem ruleBoxes_walk (R : Ru) (bR : BdR R) (h : Hd) (oh : OkH h) (w : World) :
    Calls Tryz.prog 6 #[.agg #[.int .i64 R.i, .int .u32 (R.s : Int), .int .i64 R.sl, .int .u32 (R.d : Int), .int .i64 R.dl, .int .u16 (R.p.1 : Int), .int .u16 (R.p.2 : Int), .int .u16 (R.q.1 : Int), .int .u16 (R.q.2 : Int), .int .u8 (R.m.1 : Int), .int .u8 (R.m.2 : Int), .int .i64 R.act], .agg #[.int .u32 (h.s : Int), .int .u32 (h.d : Int), .int .u16 (h.p : Int), .int .u16 (h.q : Int), .int .u8 (h.r : Int)]] w fun e w' => e = .returned (.bool true) ∧ Below w.heap.size w w' := by
  have hC := fun W => checkRC R W bR
  have hB := fun W => boxC R W bR
  have hM := fun W => matchC R h W bR oh
  cases ho : okR R
  · have hn := errs_no ho
    rw [boxA_no ho] at hB
    rw [match_no ho] at hM
    have hz : ∀ W, Sem.run Tryz.prog (binOp .eql 41 (.agg #[.int .u32 0, .int .u32 0, .int .u32 0, .int .u32 0, .int .u16 0, .int .u16 0, .int .u16 0, .int .u16 0, .int .u8 0, .int .u8 0]) (.agg #[.int .u32 0, .int .u32 0, .int .u32 0, .int .u32 0, .int .u16 0, .int .u16 0, .int .u16 0, .int .u16 0, .int .u8 0, .int .u8 0])) W = .ok (.bool true) W := fun W => by have h := eqX_any zeroX zeroX W; rw [decide_eq_true (rfl : zeroX = zeroX)] at h; exact h
    generalize (errs R).1 = c at *
    generalize (errs R).2 = d at *
    clear ho bR oh
    replace hB : ∀ W, Calls Tryz.prog 11 #[.agg #[.int .i64 R.i, .int .u32 (R.s : Int), .int .i64 R.sl, .int .u32 (R.d : Int), .int .i64 R.dl, .int .u16 (R.p.1 : Int), .int .u16 (R.p.2 : Int), .int .u16 (R.q.1 : Int), .int .u16 (R.q.2 : Int), .int .u8 (R.m.1 : Int), .int .u8 (R.m.2 : Int), .int .i64 R.act]] W fun e w' => e = .returned (.tuple #[.agg #[.int .u32 0, .int .u32 0, .int .u32 0, .int .u32 0, .int .u16 0, .int .u16 0, .int .u16 0, .int .u16 0, .int .u8 0, .int .u8 0], .int .i64 c]) ∧ Below W.heap.size W w' := hB
    go_enter Tryz.func6, Tryz.ntmps6
    go_wp2_with (fail)
    refine (hC _).mono ?_
    rintro e w1 ⟨rfl, hb1⟩
    have GR : Hid (w1.heap[w.heap.size]? = some (.cells #[.int .i64 R.i, .int .u32 (R.s : Int), .int .i64 R.sl, .int .u32 (R.d : Int), .int .i64 R.dl, .int .u16 (R.p.1 : Int), .int .u16 (R.p.2 : Int), .int .u16 (R.q.1 : Int), .int .u16 (R.q.2 : Int), .int .u8 (R.m.1 : Int), .int .u8 (R.m.2 : Int), .int .i64 R.act] 32)) := blk_on (blk_alloc (blk_new w (.cells #[.int .i64 R.i, .int .u32 (R.s : Int), .int .i64 R.sl, .int .u32 (R.d : Int), .int .i64 R.dl, .int .u16 (R.p.1 : Int), .int .u16 (R.p.2 : Int), .int .u16 (R.q.1 : Int), .int .u16 (R.q.2 : Int), .int .u8 (R.m.1 : Int), .int .u8 (R.m.2 : Int), .int .i64 R.act] 32)) _) hb1
    have Gh : Hid (w1.heap[w.heap.size + 1]? = some (.cells #[.int .u32 (h.s : Int), .int .u32 (h.d : Int), .int .u16 (h.p : Int), .int .u16 (h.q : Int), .int .u8 (h.r : Int)] 34)) := blk_on (by simpa using blk_new (w.alloc (.cells #[.int .i64 R.i, .int .u32 (R.s : Int), .int .i64 R.sl, .int .u32 (R.d : Int), .int .i64 R.dl, .int .u16 (R.p.1 : Int), .int .u16 (R.p.2 : Int), .int .u16 (R.q.1 : Int), .int .u16 (R.q.2 : Int), .int .u8 (R.m.1 : Int), .int .u8 (R.m.2 : Int), .int .i64 R.act] 32)) (.cells #[.int .u32 (h.s : Int), .int .u32 (h.d : Int), .int .u16 (h.p : Int), .int .u16 (h.q : Int), .int .u8 (h.r : Int)] 34)) hb1
    have HO1 : Hid (w.heap.size + 1 < w1.heap.size) := blk_lt Gh.out
    have hbl1 : Hid (Below w.heap.size w w1) := bel_step (Below.refl _ _) (bel_a2 _ _ _) hb1
    clear hb1
    have HR := GR
    clear GR
    have Hh := Gh
    clear Gh
    have lR := blk_lt HR.out
    have nR : ¬ w.heap.size = w1.heap.size := by omega
    have lh := blk_lt Hh.out
    have nh : ¬ w.heap.size + 1 = w1.heap.size := by omega
    obtain ⟨R_0, R_1, R_2, R_3, R_4, R_5, R_6, R_7, R_8, R_9, R_10, R_11⟩ := blk12 HR.out
    go_wp2_with (fail)
    refine (hB _).mono ?_
    rintro e w2 ⟨rfl, hb2⟩
    have GR : Hid (w2.heap[w.heap.size]? = some (.cells #[.int .i64 R.i, .int .u32 (R.s : Int), .int .i64 R.sl, .int .u32 (R.d : Int), .int .i64 R.dl, .int .u16 (R.p.1 : Int), .int .u16 (R.p.2 : Int), .int .u16 (R.q.1 : Int), .int .u16 (R.q.2 : Int), .int .u8 (R.m.1 : Int), .int .u8 (R.m.2 : Int), .int .i64 R.act] 32)) := blk_on HR.out hb2
    have Gh : Hid (w2.heap[w.heap.size + 1]? = some (.cells #[.int .u32 (h.s : Int), .int .u32 (h.d : Int), .int .u16 (h.p : Int), .int .u16 (h.q : Int), .int .u8 (h.r : Int)] 34)) := blk_on Hh.out hb2
    have hbl2 : Hid (Below w.heap.size w w2) := bel_step hbl1.out (bel_a0 _) hb2
    clear HR Hh R_0 R_1 R_2 R_3 R_4 R_5 R_6 R_7 R_8 R_9 R_10 R_11 lR nR lh nh hb2 hbl1
    have HR := GR
    clear GR
    have Hh := Gh
    clear Gh
    have lR := blk_lt HR.out
    have nR : ¬ w.heap.size = w2.heap.size := by omega
    have lh := blk_lt Hh.out
    have nh : ¬ w.heap.size + 1 = w2.heap.size := by omega
    obtain ⟨R_0, R_1, R_2, R_3, R_4, R_5, R_6, R_7, R_8, R_9, R_10, R_11⟩ := blk12 HR.out
    obtain ⟨h_0, h_1, h_2, h_3, h_4⟩ := blk5 Hh.out
    go_wp2_with (fail)
    refine (hM _).mono ?_
    rintro e w3 ⟨rfl, hb3⟩
    have GR : Hid (w3.heap[w.heap.size]? = some (.cells #[.int .i64 R.i, .int .u32 (R.s : Int), .int .i64 R.sl, .int .u32 (R.d : Int), .int .i64 R.dl, .int .u16 (R.p.1 : Int), .int .u16 (R.p.2 : Int), .int .u16 (R.q.1 : Int), .int .u16 (R.q.2 : Int), .int .u8 (R.m.1 : Int), .int .u8 (R.m.2 : Int), .int .i64 R.act] 32)) := blk_on (blk_alloc HR.out _) hb3
    have Gh : Hid (w3.heap[w.heap.size + 1]? = some (.cells #[.int .u32 (h.s : Int), .int .u32 (h.d : Int), .int .u16 (h.p : Int), .int .u16 (h.q : Int), .int .u8 (h.r : Int)] 34)) := blk_on (blk_alloc Hh.out _) hb3
    have GX : Hid (w3.heap[w2.heap.size]? = some (.cells #[.int .u32 0, .int .u32 0, .int .u32 0, .int .u32 0, .int .u16 0, .int .u16 0, .int .u16 0, .int .u16 0, .int .u8 0, .int .u8 0] 41)) := blk_on (blk_new w2 (.cells #[.int .u32 0, .int .u32 0, .int .u32 0, .int .u32 0, .int .u16 0, .int .u16 0, .int .u16 0, .int .u16 0, .int .u8 0, .int .u8 0] 41)) hb3
    have HO3 : Hid (w2.heap.size < w3.heap.size) := blk_lt GX.out
    have hbl3 : Hid (Below w.heap.size w w3) := bel_step hbl2.out (bel_a1 _ _) hb3
    clear HR Hh R_0 R_1 R_2 R_3 R_4 R_5 R_6 R_7 R_8 R_9 R_10 R_11 h_0 h_1 h_2 h_3 h_4 lR nR lh nh hb3 hbl2
    have HR := GR
    clear GR
    have Hh := Gh
    clear Gh
    have HX := GX
    clear GX
    have lR := blk_lt HR.out
    have nR : ¬ w.heap.size = w3.heap.size := by omega
    have lh := blk_lt Hh.out
    have nh : ¬ w.heap.size + 1 = w3.heap.size := by omega
    have lX := blk_lt HX.out
    have nX : ¬ w2.heap.size = w3.heap.size := by omega
    go_wp2_with (fail)
    refine (awakeR _).mono ?_
    rintro e w4 ⟨rfl, hb4⟩
    have GR : Hid (w4.heap[w.heap.size]? = some (.cells #[.int .i64 R.i, .int .u32 (R.s : Int), .int .i64 R.sl, .int .u32 (R.d : Int), .int .i64 R.dl, .int .u16 (R.p.1 : Int), .int .u16 (R.p.2 : Int), .int .u16 (R.q.1 : Int), .int .u16 (R.q.2 : Int), .int .u8 (R.m.1 : Int), .int .u8 (R.m.2 : Int), .int .i64 R.act] 32)) := blk_on HR.out hb4
    have Gh : Hid (w4.heap[w.heap.size + 1]? = some (.cells #[.int .u32 (h.s : Int), .int .u32 (h.d : Int), .int .u16 (h.p : Int), .int .u16 (h.q : Int), .int .u8 (h.r : Int)] 34)) := blk_on Hh.out hb4
    have GX : Hid (w4.heap[w2.heap.size]? = some (.cells #[.int .u32 0, .int .u32 0, .int .u32 0, .int .u32 0, .int .u16 0, .int .u16 0, .int .u16 0, .int .u16 0, .int .u8 0, .int .u8 0] 41)) := blk_on HX.out hb4
    have hbl4 : Hid (Below w.heap.size w w4) := bel_step hbl3.out (bel_a0 _) hb4
    clear HR Hh HX lR nR lh nh lX nX hb4 hbl3
    have HR := GR
    clear GR
    have Hh := Gh
    clear Gh
    have HX := GX
    clear GX
    have lR := blk_lt HR.out
    have nR : ¬ w.heap.size = w4.heap.size := by omega
    have lh := blk_lt Hh.out
    have nh : ¬ w.heap.size + 1 = w4.heap.size := by omega
    have lX := blk_lt HX.out
    have nX : ¬ w2.heap.size = w4.heap.size := by omega
    obtain ⟨X_0, X_1, X_2, X_3, X_4, X_5, X_6, X_7, X_8, X_9⟩ := blk10 HX.out
    go_wp2_with (fail)
    go_ret
    exact ⟨rfl, hbl4.out⟩
  · rw [errs_ok ho] at hC hB
    rw [boxA_in ho] at hB
    have xR := boxR_bd bR ho
    have hF := fun W => firstC (boxR R) W xR
    rw [chkX_ok.2 (okX_box ho), show firstX (boxR R) = leastX (boxR R) by unfold firstX; rw [if_pos (okX_box ho)]] at hF
    have hN := fun W => countRC R W bR
    rw [cntR_in ho] at hN
    have hK := fun W => countXC (boxR R) W xR
    have hH := fun W => hasXC (boxR R) h W xR oh
    rw [show matchR R h = hasH (boxR R) h by unfold matchR; rw [ho, Bool.true_and]] at hM
    have hL := fun W => matchC R (leastX (boxR R)) W bR (by have := firstX_ok xR; unfold firstX at this; rwa [if_pos (okX_box ho)] at this)
    have e := (meetR_match (A := R) (B := R) (by rw [(meet_self R).1]; exact ho)).1
    rw [(meet_self R).2 ho] at e
    rw [e] at hL
    generalize leastX (boxR R) = L at *
    generalize boxR R = X at *
    generalize hasH X h = m at *
    generalize hiW (cntX X) = p at *
    generalize loW (cntX X) = q at *
    clear ho bR oh xR e
    go_enter Tryz.func6, Tryz.ntmps6
    go_wp2_with (fail)
    refine (hC _).mono ?_
    rintro e w1 ⟨rfl, hb1⟩
    have GR : Hid (w1.heap[w.heap.size]? = some (.cells #[.int .i64 R.i, .int .u32 (R.s : Int), .int .i64 R.sl, .int .u32 (R.d : Int), .int .i64 R.dl, .int .u16 (R.p.1 : Int), .int .u16 (R.p.2 : Int), .int .u16 (R.q.1 : Int), .int .u16 (R.q.2 : Int), .int .u8 (R.m.1 : Int), .int .u8 (R.m.2 : Int), .int .i64 R.act] 32)) := blk_on (blk_alloc (blk_new w (.cells #[.int .i64 R.i, .int .u32 (R.s : Int), .int .i64 R.sl, .int .u32 (R.d : Int), .int .i64 R.dl, .int .u16 (R.p.1 : Int), .int .u16 (R.p.2 : Int), .int .u16 (R.q.1 : Int), .int .u16 (R.q.2 : Int), .int .u8 (R.m.1 : Int), .int .u8 (R.m.2 : Int), .int .i64 R.act] 32)) _) hb1
    have Gh : Hid (w1.heap[w.heap.size + 1]? = some (.cells #[.int .u32 (h.s : Int), .int .u32 (h.d : Int), .int .u16 (h.p : Int), .int .u16 (h.q : Int), .int .u8 (h.r : Int)] 34)) := blk_on (by simpa using blk_new (w.alloc (.cells #[.int .i64 R.i, .int .u32 (R.s : Int), .int .i64 R.sl, .int .u32 (R.d : Int), .int .i64 R.dl, .int .u16 (R.p.1 : Int), .int .u16 (R.p.2 : Int), .int .u16 (R.q.1 : Int), .int .u16 (R.q.2 : Int), .int .u8 (R.m.1 : Int), .int .u8 (R.m.2 : Int), .int .i64 R.act] 32)) (.cells #[.int .u32 (h.s : Int), .int .u32 (h.d : Int), .int .u16 (h.p : Int), .int .u16 (h.q : Int), .int .u8 (h.r : Int)] 34)) hb1
    have HO1 : Hid (w.heap.size + 1 < w1.heap.size) := blk_lt Gh.out
    have hbl1 : Hid (Below w.heap.size w w1) := bel_step (Below.refl _ _) (bel_a2 _ _ _) hb1
    clear hb1
    have HR := GR
    clear GR
    have Hh := Gh
    clear Gh
    have lR := blk_lt HR.out
    have nR : ¬ w.heap.size = w1.heap.size := by omega
    have lh := blk_lt Hh.out
    have nh : ¬ w.heap.size + 1 = w1.heap.size := by omega
    obtain ⟨R_0, R_1, R_2, R_3, R_4, R_5, R_6, R_7, R_8, R_9, R_10, R_11⟩ := blk12 HR.out
    go_wp2_with (fail)
    refine (hB _).mono ?_
    rintro e w2 ⟨rfl, hb2⟩
    have GR : Hid (w2.heap[w.heap.size]? = some (.cells #[.int .i64 R.i, .int .u32 (R.s : Int), .int .i64 R.sl, .int .u32 (R.d : Int), .int .i64 R.dl, .int .u16 (R.p.1 : Int), .int .u16 (R.p.2 : Int), .int .u16 (R.q.1 : Int), .int .u16 (R.q.2 : Int), .int .u8 (R.m.1 : Int), .int .u8 (R.m.2 : Int), .int .i64 R.act] 32)) := blk_on HR.out hb2
    have Gh : Hid (w2.heap[w.heap.size + 1]? = some (.cells #[.int .u32 (h.s : Int), .int .u32 (h.d : Int), .int .u16 (h.p : Int), .int .u16 (h.q : Int), .int .u8 (h.r : Int)] 34)) := blk_on Hh.out hb2
    have hbl2 : Hid (Below w.heap.size w w2) := bel_step hbl1.out (bel_a0 _) hb2
    clear HR Hh R_0 R_1 R_2 R_3 R_4 R_5 R_6 R_7 R_8 R_9 R_10 R_11 lR nR lh nh hb2 hbl1
    have HR := GR
    clear GR
    have Hh := Gh
    clear Gh
    have lR := blk_lt HR.out
    have nR : ¬ w.heap.size = w2.heap.size := by omega
    have lh := blk_lt Hh.out
    have nh : ¬ w.heap.size + 1 = w2.heap.size := by omega
    obtain ⟨R_0, R_1, R_2, R_3, R_4, R_5, R_6, R_7, R_8, R_9, R_10, R_11⟩ := blk12 HR.out
    obtain ⟨h_0, h_1, h_2, h_3, h_4⟩ := blk5 Hh.out
    go_wp2_with (fail)
    refine (hM _).mono ?_
    rintro e w3 ⟨rfl, hb3⟩
    have GR : Hid (w3.heap[w.heap.size]? = some (.cells #[.int .i64 R.i, .int .u32 (R.s : Int), .int .i64 R.sl, .int .u32 (R.d : Int), .int .i64 R.dl, .int .u16 (R.p.1 : Int), .int .u16 (R.p.2 : Int), .int .u16 (R.q.1 : Int), .int .u16 (R.q.2 : Int), .int .u8 (R.m.1 : Int), .int .u8 (R.m.2 : Int), .int .i64 R.act] 32)) := blk_on (blk_alloc HR.out _) hb3
    have Gh : Hid (w3.heap[w.heap.size + 1]? = some (.cells #[.int .u32 (h.s : Int), .int .u32 (h.d : Int), .int .u16 (h.p : Int), .int .u16 (h.q : Int), .int .u8 (h.r : Int)] 34)) := blk_on (blk_alloc Hh.out _) hb3
    have GX : Hid (w3.heap[w2.heap.size]? = some (.cells #[.int .u32 (X.a.1 : Int), .int .u32 (X.a.2 : Int), .int .u32 (X.b.1 : Int), .int .u32 (X.b.2 : Int), .int .u16 (X.c.1 : Int), .int .u16 (X.c.2 : Int), .int .u16 (X.d.1 : Int), .int .u16 (X.d.2 : Int), .int .u8 (X.m.1 : Int), .int .u8 (X.m.2 : Int)] 41)) := blk_on (blk_new w2 (.cells #[.int .u32 (X.a.1 : Int), .int .u32 (X.a.2 : Int), .int .u32 (X.b.1 : Int), .int .u32 (X.b.2 : Int), .int .u16 (X.c.1 : Int), .int .u16 (X.c.2 : Int), .int .u16 (X.d.1 : Int), .int .u16 (X.d.2 : Int), .int .u8 (X.m.1 : Int), .int .u8 (X.m.2 : Int)] 41)) hb3
    have HO3 : Hid (w2.heap.size < w3.heap.size) := blk_lt GX.out
    have hbl3 : Hid (Below w.heap.size w w3) := bel_step hbl2.out (bel_a1 _ _) hb3
    clear HR Hh R_0 R_1 R_2 R_3 R_4 R_5 R_6 R_7 R_8 R_9 R_10 R_11 h_0 h_1 h_2 h_3 h_4 lR nR lh nh hb3 hbl2
    have HR := GR
    clear GR
    have Hh := Gh
    clear Gh
    have HX := GX
    clear GX
    have lR := blk_lt HR.out
    have nR : ¬ w.heap.size = w3.heap.size := by omega
    have lh := blk_lt Hh.out
    have nh : ¬ w.heap.size + 1 = w3.heap.size := by omega
    have lX := blk_lt HX.out
    have nX : ¬ w2.heap.size = w3.heap.size := by omega
    obtain ⟨X_0, X_1, X_2, X_3, X_4, X_5, X_6, X_7, X_8, X_9⟩ := blk10 HX.out
    go_wp2_with (fail)
    refine (hF _).mono ?_
    rintro e w4 ⟨rfl, hb4⟩
    have GR : Hid (w4.heap[w.heap.size]? = some (.cells #[.int .i64 R.i, .int .u32 (R.s : Int), .int .i64 R.sl, .int .u32 (R.d : Int), .int .i64 R.dl, .int .u16 (R.p.1 : Int), .int .u16 (R.p.2 : Int), .int .u16 (R.q.1 : Int), .int .u16 (R.q.2 : Int), .int .u8 (R.m.1 : Int), .int .u8 (R.m.2 : Int), .int .i64 R.act] 32)) := blk_on HR.out hb4
    have Gh : Hid (w4.heap[w.heap.size + 1]? = some (.cells #[.int .u32 (h.s : Int), .int .u32 (h.d : Int), .int .u16 (h.p : Int), .int .u16 (h.q : Int), .int .u8 (h.r : Int)] 34)) := blk_on Hh.out hb4
    have GX : Hid (w4.heap[w2.heap.size]? = some (.cells #[.int .u32 (X.a.1 : Int), .int .u32 (X.a.2 : Int), .int .u32 (X.b.1 : Int), .int .u32 (X.b.2 : Int), .int .u16 (X.c.1 : Int), .int .u16 (X.c.2 : Int), .int .u16 (X.d.1 : Int), .int .u16 (X.d.2 : Int), .int .u8 (X.m.1 : Int), .int .u8 (X.m.2 : Int)] 41)) := blk_on HX.out hb4
    have hbl4 : Hid (Below w.heap.size w w4) := bel_step hbl3.out (bel_a0 _) hb4
    clear HR Hh HX X_0 X_1 X_2 X_3 X_4 X_5 X_6 X_7 X_8 X_9 lR nR lh nh lX nX hb4 hbl3
    have HR := GR
    clear GR
    have Hh := Gh
    clear Gh
    have HX := GX
    clear GX
    have lR := blk_lt HR.out
    have nR : ¬ w.heap.size = w4.heap.size := by omega
    have lh := blk_lt Hh.out
    have nh : ¬ w.heap.size + 1 = w4.heap.size := by omega
    have lX := blk_lt HX.out
    have nX : ¬ w2.heap.size = w4.heap.size := by omega
    obtain ⟨R_0, R_1, R_2, R_3, R_4, R_5, R_6, R_7, R_8, R_9, R_10, R_11⟩ := blk12 HR.out
    go_wp2_with (fail)
    refine (hN _).mono ?_
    rintro e w5 ⟨rfl, hb5⟩
    have GR : Hid (w5.heap[w.heap.size]? = some (.cells #[.int .i64 R.i, .int .u32 (R.s : Int), .int .i64 R.sl, .int .u32 (R.d : Int), .int .i64 R.dl, .int .u16 (R.p.1 : Int), .int .u16 (R.p.2 : Int), .int .u16 (R.q.1 : Int), .int .u16 (R.q.2 : Int), .int .u8 (R.m.1 : Int), .int .u8 (R.m.2 : Int), .int .i64 R.act] 32)) := blk_on (blk_alloc HR.out _) hb5
    have Gh : Hid (w5.heap[w.heap.size + 1]? = some (.cells #[.int .u32 (h.s : Int), .int .u32 (h.d : Int), .int .u16 (h.p : Int), .int .u16 (h.q : Int), .int .u8 (h.r : Int)] 34)) := blk_on (blk_alloc Hh.out _) hb5
    have GX : Hid (w5.heap[w2.heap.size]? = some (.cells #[.int .u32 (X.a.1 : Int), .int .u32 (X.a.2 : Int), .int .u32 (X.b.1 : Int), .int .u32 (X.b.2 : Int), .int .u16 (X.c.1 : Int), .int .u16 (X.c.2 : Int), .int .u16 (X.d.1 : Int), .int .u16 (X.d.2 : Int), .int .u8 (X.m.1 : Int), .int .u8 (X.m.2 : Int)] 41)) := blk_on (blk_alloc HX.out _) hb5
    have GL : Hid (w5.heap[w4.heap.size]? = some (.cells #[.int .u32 (L.s : Int), .int .u32 (L.d : Int), .int .u16 (L.p : Int), .int .u16 (L.q : Int), .int .u8 (L.r : Int)] 34)) := blk_on (blk_new w4 (.cells #[.int .u32 (L.s : Int), .int .u32 (L.d : Int), .int .u16 (L.p : Int), .int .u16 (L.q : Int), .int .u8 (L.r : Int)] 34)) hb5
    have HO5 : Hid (w4.heap.size < w5.heap.size) := blk_lt GL.out
    have hbl5 : Hid (Below w.heap.size w w5) := bel_step hbl4.out (bel_a1 _ _) hb5
    clear HR Hh HX R_0 R_1 R_2 R_3 R_4 R_5 R_6 R_7 R_8 R_9 R_10 R_11 lR nR lh nh lX nX hb5 hbl4
    have HR := GR
    clear GR
    have Hh := Gh
    clear Gh
    have HX := GX
    clear GX
    have HL := GL
    clear GL
    have lR := blk_lt HR.out
    have nR : ¬ w.heap.size = w5.heap.size := by omega
    have lh := blk_lt Hh.out
    have nh : ¬ w.heap.size + 1 = w5.heap.size := by omega
    have lX := blk_lt HX.out
    have nX : ¬ w2.heap.size = w5.heap.size := by omega
    have lL := blk_lt HL.out
    have nL : ¬ w4.heap.size = w5.heap.size := by omega
    obtain ⟨X_0, X_1, X_2, X_3, X_4, X_5, X_6, X_7, X_8, X_9⟩ := blk10 HX.out
    go_wp2_with (fail)
    refine (hK _).mono ?_
    rintro e w6 ⟨rfl, hb6⟩
    have GR : Hid (w6.heap[w.heap.size]? = some (.cells #[.int .i64 R.i, .int .u32 (R.s : Int), .int .i64 R.sl, .int .u32 (R.d : Int), .int .i64 R.dl, .int .u16 (R.p.1 : Int), .int .u16 (R.p.2 : Int), .int .u16 (R.q.1 : Int), .int .u16 (R.q.2 : Int), .int .u8 (R.m.1 : Int), .int .u8 (R.m.2 : Int), .int .i64 R.act] 32)) := blk_on HR.out hb6
    have Gh : Hid (w6.heap[w.heap.size + 1]? = some (.cells #[.int .u32 (h.s : Int), .int .u32 (h.d : Int), .int .u16 (h.p : Int), .int .u16 (h.q : Int), .int .u8 (h.r : Int)] 34)) := blk_on Hh.out hb6
    have GX : Hid (w6.heap[w2.heap.size]? = some (.cells #[.int .u32 (X.a.1 : Int), .int .u32 (X.a.2 : Int), .int .u32 (X.b.1 : Int), .int .u32 (X.b.2 : Int), .int .u16 (X.c.1 : Int), .int .u16 (X.c.2 : Int), .int .u16 (X.d.1 : Int), .int .u16 (X.d.2 : Int), .int .u8 (X.m.1 : Int), .int .u8 (X.m.2 : Int)] 41)) := blk_on HX.out hb6
    have GL : Hid (w6.heap[w4.heap.size]? = some (.cells #[.int .u32 (L.s : Int), .int .u32 (L.d : Int), .int .u16 (L.p : Int), .int .u16 (L.q : Int), .int .u8 (L.r : Int)] 34)) := blk_on HL.out hb6
    have hbl6 : Hid (Below w.heap.size w w6) := bel_step hbl5.out (bel_a0 _) hb6
    clear HR Hh HX HL X_0 X_1 X_2 X_3 X_4 X_5 X_6 X_7 X_8 X_9 lR nR lh nh lX nX lL nL hb6 hbl5
    have HR := GR
    clear GR
    have Hh := Gh
    clear Gh
    have HX := GX
    clear GX
    have HL := GL
    clear GL
    have lR := blk_lt HR.out
    have nR : ¬ w.heap.size = w6.heap.size := by omega
    have lh := blk_lt Hh.out
    have nh : ¬ w.heap.size + 1 = w6.heap.size := by omega
    have lX := blk_lt HX.out
    have nX : ¬ w2.heap.size = w6.heap.size := by omega
    have lL := blk_lt HL.out
    have nL : ¬ w4.heap.size = w6.heap.size := by omega
    go_wp2_with (fail)
    refine (awakeR _).mono ?_
    rintro e w7 ⟨rfl, hb7⟩
    have GR : Hid (w7.heap[w.heap.size]? = some (.cells #[.int .i64 R.i, .int .u32 (R.s : Int), .int .i64 R.sl, .int .u32 (R.d : Int), .int .i64 R.dl, .int .u16 (R.p.1 : Int), .int .u16 (R.p.2 : Int), .int .u16 (R.q.1 : Int), .int .u16 (R.q.2 : Int), .int .u8 (R.m.1 : Int), .int .u8 (R.m.2 : Int), .int .i64 R.act] 32)) := blk_on HR.out hb7
    have Gh : Hid (w7.heap[w.heap.size + 1]? = some (.cells #[.int .u32 (h.s : Int), .int .u32 (h.d : Int), .int .u16 (h.p : Int), .int .u16 (h.q : Int), .int .u8 (h.r : Int)] 34)) := blk_on Hh.out hb7
    have GX : Hid (w7.heap[w2.heap.size]? = some (.cells #[.int .u32 (X.a.1 : Int), .int .u32 (X.a.2 : Int), .int .u32 (X.b.1 : Int), .int .u32 (X.b.2 : Int), .int .u16 (X.c.1 : Int), .int .u16 (X.c.2 : Int), .int .u16 (X.d.1 : Int), .int .u16 (X.d.2 : Int), .int .u8 (X.m.1 : Int), .int .u8 (X.m.2 : Int)] 41)) := blk_on HX.out hb7
    have GL : Hid (w7.heap[w4.heap.size]? = some (.cells #[.int .u32 (L.s : Int), .int .u32 (L.d : Int), .int .u16 (L.p : Int), .int .u16 (L.q : Int), .int .u8 (L.r : Int)] 34)) := blk_on HL.out hb7
    have hbl7 : Hid (Below w.heap.size w w7) := bel_step hbl6.out (bel_a0 _) hb7
    clear HR Hh HX HL lR nR lh nh lX nX lL nL hb7 hbl6
    have HR := GR
    clear GR
    have Hh := Gh
    clear Gh
    have HX := GX
    clear GX
    have HL := GL
    clear GL
    have lR := blk_lt HR.out
    have nR : ¬ w.heap.size = w7.heap.size := by omega
    have lh := blk_lt Hh.out
    have nh : ¬ w.heap.size + 1 = w7.heap.size := by omega
    have lX := blk_lt HX.out
    have nX : ¬ w2.heap.size = w7.heap.size := by omega
    have lL := blk_lt HL.out
    have nL : ¬ w4.heap.size = w7.heap.size := by omega
    obtain ⟨X_0, X_1, X_2, X_3, X_4, X_5, X_6, X_7, X_8, X_9⟩ := blk10 HX.out
    obtain ⟨h_0, h_1, h_2, h_3, h_4⟩ := blk5 Hh.out
    go_wp2_with (fail)
    refine (hH _).mono ?_
    rintro e w8 ⟨rfl, hb8⟩
    have GR : Hid (w8.heap[w.heap.size]? = some (.cells #[.int .i64 R.i, .int .u32 (R.s : Int), .int .i64 R.sl, .int .u32 (R.d : Int), .int .i64 R.dl, .int .u16 (R.p.1 : Int), .int .u16 (R.p.2 : Int), .int .u16 (R.q.1 : Int), .int .u16 (R.q.2 : Int), .int .u8 (R.m.1 : Int), .int .u8 (R.m.2 : Int), .int .i64 R.act] 32)) := blk_on HR.out hb8
    have Gh : Hid (w8.heap[w.heap.size + 1]? = some (.cells #[.int .u32 (h.s : Int), .int .u32 (h.d : Int), .int .u16 (h.p : Int), .int .u16 (h.q : Int), .int .u8 (h.r : Int)] 34)) := blk_on Hh.out hb8
    have GX : Hid (w8.heap[w2.heap.size]? = some (.cells #[.int .u32 (X.a.1 : Int), .int .u32 (X.a.2 : Int), .int .u32 (X.b.1 : Int), .int .u32 (X.b.2 : Int), .int .u16 (X.c.1 : Int), .int .u16 (X.c.2 : Int), .int .u16 (X.d.1 : Int), .int .u16 (X.d.2 : Int), .int .u8 (X.m.1 : Int), .int .u8 (X.m.2 : Int)] 41)) := blk_on HX.out hb8
    have GL : Hid (w8.heap[w4.heap.size]? = some (.cells #[.int .u32 (L.s : Int), .int .u32 (L.d : Int), .int .u16 (L.p : Int), .int .u16 (L.q : Int), .int .u8 (L.r : Int)] 34)) := blk_on HL.out hb8
    have hbl8 : Hid (Below w.heap.size w w8) := bel_step hbl7.out (bel_a0 _) hb8
    clear HR Hh HX HL X_0 X_1 X_2 X_3 X_4 X_5 X_6 X_7 X_8 X_9 h_0 h_1 h_2 h_3 h_4 lR nR lh nh lX nX lL nL hb8 hbl7
    have HR := GR
    clear GR
    have Hh := Gh
    clear Gh
    have HX := GX
    clear GX
    have HL := GL
    clear GL
    have lR := blk_lt HR.out
    have nR : ¬ w.heap.size = w8.heap.size := by omega
    have lh := blk_lt Hh.out
    have nh : ¬ w.heap.size + 1 = w8.heap.size := by omega
    have lX := blk_lt HX.out
    have nX : ¬ w2.heap.size = w8.heap.size := by omega
    have lL := blk_lt HL.out
    have nL : ¬ w4.heap.size = w8.heap.size := by omega
    obtain ⟨R_0, R_1, R_2, R_3, R_4, R_5, R_6, R_7, R_8, R_9, R_10, R_11⟩ := blk12 HR.out
    obtain ⟨L_0, L_1, L_2, L_3, L_4⟩ := blk5 HL.out
    go_wp2_with (fail)
    refine (hL _).mono ?_
    rintro e w9 ⟨rfl, hb9⟩
    have GR : Hid (w9.heap[w.heap.size]? = some (.cells #[.int .i64 R.i, .int .u32 (R.s : Int), .int .i64 R.sl, .int .u32 (R.d : Int), .int .i64 R.dl, .int .u16 (R.p.1 : Int), .int .u16 (R.p.2 : Int), .int .u16 (R.q.1 : Int), .int .u16 (R.q.2 : Int), .int .u8 (R.m.1 : Int), .int .u8 (R.m.2 : Int), .int .i64 R.act] 32)) := blk_on HR.out hb9
    have Gh : Hid (w9.heap[w.heap.size + 1]? = some (.cells #[.int .u32 (h.s : Int), .int .u32 (h.d : Int), .int .u16 (h.p : Int), .int .u16 (h.q : Int), .int .u8 (h.r : Int)] 34)) := blk_on Hh.out hb9
    have GX : Hid (w9.heap[w2.heap.size]? = some (.cells #[.int .u32 (X.a.1 : Int), .int .u32 (X.a.2 : Int), .int .u32 (X.b.1 : Int), .int .u32 (X.b.2 : Int), .int .u16 (X.c.1 : Int), .int .u16 (X.c.2 : Int), .int .u16 (X.d.1 : Int), .int .u16 (X.d.2 : Int), .int .u8 (X.m.1 : Int), .int .u8 (X.m.2 : Int)] 41)) := blk_on HX.out hb9
    have GL : Hid (w9.heap[w4.heap.size]? = some (.cells #[.int .u32 (L.s : Int), .int .u32 (L.d : Int), .int .u16 (L.p : Int), .int .u16 (L.q : Int), .int .u8 (L.r : Int)] 34)) := blk_on HL.out hb9
    have hbl9 : Hid (Below w.heap.size w w9) := bel_step hbl8.out (bel_a0 _) hb9
    clear HR Hh HX HL R_0 R_1 R_2 R_3 R_4 R_5 R_6 R_7 R_8 R_9 R_10 R_11 L_0 L_1 L_2 L_3 L_4 lR nR lh nh lX nX lL nL hb9 hbl8
    have HR := GR
    clear GR
    have Hh := Gh
    clear Gh
    have HX := GX
    clear GX
    have HL := GL
    clear GL
    have lR := blk_lt HR.out
    have nR : ¬ w.heap.size = w9.heap.size := by omega
    have lh := blk_lt Hh.out
    have nh : ¬ w.heap.size + 1 = w9.heap.size := by omega
    have lX := blk_lt HX.out
    have nX : ¬ w2.heap.size = w9.heap.size := by omega
    have lL := blk_lt HL.out
    have nL : ¬ w4.heap.size = w9.heap.size := by omega
    go_wp2_with (fail)
    go_ret
    exact ⟨rfl, hbl9.out⟩

set_option maxRecDepth 100000 in
theorem ruleBoxes_lifted (os : Os) (started : os.Started) (H : Type) (enc : TypeId × Value → H) :
    ReturnsInHanded {} Tryz.checked os 6 .any (Rows.ruleBoxesSpec.pre6 enc Tryz.prog Tryz.f6 Rows.ruleBoxesRow.domain false) (Rows.ruleBoxesSpec.post enc Tryz.prog Tryz.f6 false true false false) := by
  refine returnsInHanded_of_change (C := Tryz.checked) own started (by kernel_rfl) Tryz.func6
    (ChangeSpec.witness6 (enc := enc) (C := Tryz.checked) false ⟨#[], #[.agg #[.int .i64 0, .int .u32 0, .int .i64 0, .int .u32 0, .int .i64 0, .int .u16 0, .int .u16 0, .int .u16 0, .int .u16 0, .int .u8 0, .int .u8 0, .int .i64 0], .agg #[.int .u32 0, .int .u32 0, .int .u16 0, .int .u16 0, .int .u8 0]], []⟩ 8 (by kernel_rfl) (by kernel_rfl) (by kernel_rfl) (by kernel_rfl)) ?_
  intro W base args ds gs before hval0 hW hcnd _
  have hval : ∀ (j : Nat) t v, Tryz.f6.params[j]? = some t → args[j]? = some v → Value.okWide Tryz.prog W .any base t v := hval0
  have hW' := hW
  obtain ⟨p, q, hA0, hV, rfl, hfz, hnd⟩ := hW
  have hA : DataW.TrodAll enc Tryz.prog W 0 (fun _ => true) true Tryz.f6.params.toList args.toList ds p := hA0
  rw [Tryz.params6] at hA hval
  obtain ⟨v0, vs0, d0, ds0, p0, q0, hargs, rfl, rfl, h0, r0⟩ := trodAll_cons hA
  obtain ⟨v1, vs1, d1, ds1, p1, q1, rfl, rfl, rfl, h1, r1⟩ := trodAll_cons r0
  obtain ⟨rfl, rfl, rfl⟩ := trodAll_nil r1
  obtain rfl : args = #[v0, v1] := by cases args; simp_all
  obtain ⟨rfl, rfl⟩ := trodVars_none hV
  obtain ⟨g0, rfl, rfl, rfl, o0⟩ := open_ru (hval 0 32 v0 rfl rfl) h0
  obtain ⟨g1, rfl, rfl, rfl, o1⟩ := open_hd (hval 1 34 v1 rfl rfl) h1
  clear hA0 hval0
  simp only [List.append_nil] at hW'
  refine (ruleBoxes_walk g0 o0 g1 o1 W ).mono fun e W' ⟨he, bel⟩ => ?_
  subst he
  exact ⟨_, rfl, _, _, _, [], _, [], hW', trodAll_mk1 (shut_bool Tryz.underlying4 _), (trodAll_cons_mk (shut_ru o0) (trodAll_cons_mk (shut_hd o1) trodAll_mk0)), rfl, bel.frame _, fun h => by cases h⟩

/-- The given statement. -/
theorem ruleBoxes_holds : Rows.RuleBoxesSaid :=
  OpenClaim.holds_of_wide 6 Tryz.f6 rfl rfl rfl rfl rfl rfl rfl ⟨rfl, rfl, rfl, rfl, rfl⟩ rfl rfl rfl rfl rfl (by kernel_rfl) Tryz.func6 (by kernel_rfl)
    (of_decide_eq_true (by kernel_rfl)) (by unfold Func.isWrapper; first | (rw [if_pos (by decide +kernel)]; kernel_rfl) | (rw [if_neg (by decide +kernel)]; exact ⟨rfl, rfl⟩))
    (fun os started H enc _ => ruleBoxes_lifted os started H enc)
#print axioms ruleBoxes_holds
end Go.Proofs.YtebljklpkoheaaaGreat
