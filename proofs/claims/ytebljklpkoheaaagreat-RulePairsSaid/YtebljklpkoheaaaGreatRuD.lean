/-
  mayBe, Match, Box, Count, Within, Meets, All of package rule. Written by tools/mkRuD.py.
-/
import Derived.Test.YtebljklpkoheaaaGreatRuC
import Derived.Test.YtebljklpkoheaaaGreatBxN
import Derived.Test.YtebljklpkoheaaaGreatBxH
import Derived.Test.YtebljklpkoheaaaGreatBxM
namespace Go.Proofs.YtebljklpkoheaaaGreat
open Go.RowKit
set_option linter.unusedVariables false
set_option linter.unusedSimpArgs false

theorem bel_step {w W V w1 : World} (h : Below w.heap.size w W) (hV : Below W.heap.size W V) (hb : Below V.heap.size V w1) : Below w.heap.size w w1 := h.trans ((hV.trans (hb.mono hV.size)).mono h.size)
theorem bel_a0 (W : World) : Below W.heap.size W W := Below.refl _ _
theorem bel_a1 (W : World) (o : Obj) : Below W.heap.size W (W.alloc o) := (Below.refl _ _).alloc (Nat.le_refl _) _
theorem bel_a2 (W : World) (o p : Obj) : Below W.heap.size W ((W.alloc o).alloc p) := (bel_a1 W o).alloc (bel_a1 W o).size _
theorem bel_a3 (W : World) (o p q : Obj) : Below W.heap.size W (((W.alloc o).alloc p).alloc q) := (bel_a2 W o p).alloc (bel_a2 W o p).size _
theorem bel_a4 (W : World) (o p q r : Obj) : Below W.heap.size W ((((W.alloc o).alloc p).alloc q).alloc r) := (bel_a3 W o p q).alloc (bel_a3 W o p q).size _

theorem mayBeC (R : Ru) (w : World) (b : BdR R) :
    Calls Tryz.prog 41 #[.agg #[.int .i64 R.i, .int .u32 (R.s : Int), .int .i64 R.sl, .int .u32 (R.d : Int), .int .i64 R.dl, .int .u16 (R.p.1 : Int), .int .u16 (R.p.2 : Int), .int .u16 (R.q.1 : Int), .int .u16 (R.q.2 : Int), .int .u8 (R.m.1 : Int), .int .u8 (R.m.2 : Int), .int .i64 R.act]] w fun e w' => e = .returned (.bool (okR R)) ∧ Below w.heap.size w w' := by
  have hC := fun W => checkRC R W b
  cases ho : okR R
  · have hn := errs_no ho
    have hn' : ((errs R).1 == 0) = false := by simpa using hn
    generalize (errs R).1 = c at *
    generalize (errs R).2 = d at *
    clear ho b
    go_enter Tryz.func41, Tryz.ntmps41
    go_wp2_with (fail)
    refine (hC _).mono ?_
    rintro e w1 ⟨rfl, hb1⟩
    have GR : Hid (w1.heap[w.heap.size]? = some (.cells #[.int .i64 R.i, .int .u32 (R.s : Int), .int .i64 R.sl, .int .u32 (R.d : Int), .int .i64 R.dl, .int .u16 (R.p.1 : Int), .int .u16 (R.p.2 : Int), .int .u16 (R.q.1 : Int), .int .u16 (R.q.2 : Int), .int .u8 (R.m.1 : Int), .int .u8 (R.m.2 : Int), .int .i64 R.act] 32)) := blk_on (blk_new w (.cells #[.int .i64 R.i, .int .u32 (R.s : Int), .int .i64 R.sl, .int .u32 (R.d : Int), .int .i64 R.dl, .int .u16 (R.p.1 : Int), .int .u16 (R.p.2 : Int), .int .u16 (R.q.1 : Int), .int .u16 (R.q.2 : Int), .int .u8 (R.m.1 : Int), .int .u8 (R.m.2 : Int), .int .i64 R.act] 32)) hb1
    have hbl1 : Hid (Below w.heap.size w w1) := bel_step (Below.refl _ _) (bel_a1 _ _) hb1
    clear hb1
    have HR := GR
    clear GR
    have lR := blk_lt HR.out
    have nR : ¬ w.heap.size = w1.heap.size := by omega
    go_wp2_with (fail)
    go_ret
    exact ⟨rfl, hbl1.out⟩
  · rw [errs_ok ho] at hC
    clear ho b
    go_enter Tryz.func41, Tryz.ntmps41
    go_wp2_with (fail)
    refine (hC _).mono ?_
    rintro e w1 ⟨rfl, hb1⟩
    have GR : Hid (w1.heap[w.heap.size]? = some (.cells #[.int .i64 R.i, .int .u32 (R.s : Int), .int .i64 R.sl, .int .u32 (R.d : Int), .int .i64 R.dl, .int .u16 (R.p.1 : Int), .int .u16 (R.p.2 : Int), .int .u16 (R.q.1 : Int), .int .u16 (R.q.2 : Int), .int .u8 (R.m.1 : Int), .int .u8 (R.m.2 : Int), .int .i64 R.act] 32)) := blk_on (blk_new w (.cells #[.int .i64 R.i, .int .u32 (R.s : Int), .int .i64 R.sl, .int .u32 (R.d : Int), .int .i64 R.dl, .int .u16 (R.p.1 : Int), .int .u16 (R.p.2 : Int), .int .u16 (R.q.1 : Int), .int .u16 (R.q.2 : Int), .int .u8 (R.m.1 : Int), .int .u8 (R.m.2 : Int), .int .i64 R.act] 32)) hb1
    have hbl1 : Hid (Below w.heap.size w w1) := bel_step (Below.refl _ _) (bel_a1 _ _) hb1
    clear hb1
    have HR := GR
    clear GR
    have lR := blk_lt HR.out
    have nR : ¬ w.heap.size = w1.heap.size := by omega
    go_wp2_with (fail)
    go_ret
    exact ⟨rfl, hbl1.out⟩
set_option maxRecDepth 20000 in
set_option maxHeartbeats 2000000 in
theorem matchC (R : Ru) (h : Hd) (w : World) (b : BdR R) (o : OkH h) :
    Calls Tryz.prog 16 #[.agg #[.int .i64 R.i, .int .u32 (R.s : Int), .int .i64 R.sl, .int .u32 (R.d : Int), .int .i64 R.dl, .int .u16 (R.p.1 : Int), .int .u16 (R.p.2 : Int), .int .u16 (R.q.1 : Int), .int .u16 (R.q.2 : Int), .int .u8 (R.m.1 : Int), .int .u8 (R.m.2 : Int), .int .i64 R.act], .agg #[.int .u32 (h.s : Int), .int .u32 (h.d : Int), .int .u16 (h.p : Int), .int .u16 (h.q : Int), .int .u8 (h.r : Int)]] w fun e w' => e = .returned (.bool (matchR R h)) ∧ Below w.heap.size w w' := by
  have hM := fun W => mayBeC R W b
  cases ho : okR R
  · rw [ho] at hM
    rw [match_no ho]
    clear ho b o
    go_enter Tryz.func16, Tryz.ntmps16
    go_wp2_with (fail)
    refine (hM _).mono ?_
    rintro e w1 ⟨rfl, hb1⟩
    have GR : Hid (w1.heap[w.heap.size]? = some (.cells #[.int .i64 R.i, .int .u32 (R.s : Int), .int .i64 R.sl, .int .u32 (R.d : Int), .int .i64 R.dl, .int .u16 (R.p.1 : Int), .int .u16 (R.p.2 : Int), .int .u16 (R.q.1 : Int), .int .u16 (R.q.2 : Int), .int .u8 (R.m.1 : Int), .int .u8 (R.m.2 : Int), .int .i64 R.act] 32)) := blk_on (blk_alloc (blk_new w (.cells #[.int .i64 R.i, .int .u32 (R.s : Int), .int .i64 R.sl, .int .u32 (R.d : Int), .int .i64 R.dl, .int .u16 (R.p.1 : Int), .int .u16 (R.p.2 : Int), .int .u16 (R.q.1 : Int), .int .u16 (R.q.2 : Int), .int .u8 (R.m.1 : Int), .int .u8 (R.m.2 : Int), .int .i64 R.act] 32)) _) hb1
    have Gh : Hid (w1.heap[w.heap.size + 1]? = some (.cells #[.int .u32 (h.s : Int), .int .u32 (h.d : Int), .int .u16 (h.p : Int), .int .u16 (h.q : Int), .int .u8 (h.r : Int)] 34)) := blk_on (by simpa using blk_new (w.alloc (.cells #[.int .i64 R.i, .int .u32 (R.s : Int), .int .i64 R.sl, .int .u32 (R.d : Int), .int .i64 R.dl, .int .u16 (R.p.1 : Int), .int .u16 (R.p.2 : Int), .int .u16 (R.q.1 : Int), .int .u16 (R.q.2 : Int), .int .u8 (R.m.1 : Int), .int .u8 (R.m.2 : Int), .int .i64 R.act] 32)) (.cells #[.int .u32 (h.s : Int), .int .u32 (h.d : Int), .int .u16 (h.p : Int), .int .u16 (h.q : Int), .int .u8 (h.r : Int)] 34)) hb1
    have hbl1 : Hid (Below w.heap.size w w1) := bel_step (Below.refl _ _) (bel_a2 _ _ _) hb1
    clear hb1
    have HR := GR
    clear GR
    have Hh := Gh
    clear Gh
    have lR := blk_lt HR.out
    have nR : ¬ w.heap.size = w1.heap.size := by omega
    have lh := blk_lt Hh.out
    have nh : ¬ w.heap.size + 1 = w1.heap.size := by omega
    go_wp2_with (fail)
    go_ret
    exact ⟨rfl, hbl1.out⟩
  · rw [ho] at hM
    rw [match_in ho]
    obtain ⟨b1, b2, b3, b4, b5, b6, b7, b8, _⟩ := b
    obtain ⟨o1, o2, o3, o4, o5⟩ := o
    have k1 := fun W => Pf.has_any R.s R.sl h.s W b1 o1
    have k2 := fun W => Pf.has_any R.d R.dl h.d W b2 o2
    have k3 := fun W => hasSp R.p h.p W
    have k4 := fun W => hasSp R.q h.q W
    have k5 := fun W => hasC R.m.1 R.m.2 h.r W o5 b8
    generalize Pf.hasB R.s R.sl h.s = u1 at *
    generalize Pf.hasB R.d R.dl h.d = u2 at *
    generalize hasI R.p h.p = u3 at *
    generalize hasI R.q h.q = u4 at *
    generalize hasM R.m.1 R.m.2 h.r = u5 at *
    clear ho b1 b2 b3 b4 b5 b6 b7 b8 o1 o2 o3 o4 o5
    go_enter Tryz.func16, Tryz.ntmps16
    go_wp2_with (fail)
    refine (hM _).mono ?_
    rintro e w1 ⟨rfl, hb1⟩
    have GR : Hid (w1.heap[w.heap.size]? = some (.cells #[.int .i64 R.i, .int .u32 (R.s : Int), .int .i64 R.sl, .int .u32 (R.d : Int), .int .i64 R.dl, .int .u16 (R.p.1 : Int), .int .u16 (R.p.2 : Int), .int .u16 (R.q.1 : Int), .int .u16 (R.q.2 : Int), .int .u8 (R.m.1 : Int), .int .u8 (R.m.2 : Int), .int .i64 R.act] 32)) := blk_on (blk_alloc (blk_new w (.cells #[.int .i64 R.i, .int .u32 (R.s : Int), .int .i64 R.sl, .int .u32 (R.d : Int), .int .i64 R.dl, .int .u16 (R.p.1 : Int), .int .u16 (R.p.2 : Int), .int .u16 (R.q.1 : Int), .int .u16 (R.q.2 : Int), .int .u8 (R.m.1 : Int), .int .u8 (R.m.2 : Int), .int .i64 R.act] 32)) _) hb1
    have Gh : Hid (w1.heap[w.heap.size + 1]? = some (.cells #[.int .u32 (h.s : Int), .int .u32 (h.d : Int), .int .u16 (h.p : Int), .int .u16 (h.q : Int), .int .u8 (h.r : Int)] 34)) := blk_on (by simpa using blk_new (w.alloc (.cells #[.int .i64 R.i, .int .u32 (R.s : Int), .int .i64 R.sl, .int .u32 (R.d : Int), .int .i64 R.dl, .int .u16 (R.p.1 : Int), .int .u16 (R.p.2 : Int), .int .u16 (R.q.1 : Int), .int .u16 (R.q.2 : Int), .int .u8 (R.m.1 : Int), .int .u8 (R.m.2 : Int), .int .i64 R.act] 32)) (.cells #[.int .u32 (h.s : Int), .int .u32 (h.d : Int), .int .u16 (h.p : Int), .int .u16 (h.q : Int), .int .u8 (h.r : Int)] 34)) hb1
    have hbl1 : Hid (Below w.heap.size w w1) := bel_step (Below.refl _ _) (bel_a2 _ _ _) hb1
    clear hb1
    have HR := GR
    clear GR
    have Hh := Gh
    clear Gh
    have lR := blk_lt HR.out
    have nR : ¬ w.heap.size = w1.heap.size := by omega
    have lh := blk_lt Hh.out
    have nh : ¬ w.heap.size + 1 = w1.heap.size := by omega
    obtain ⟨R_0, R_1, R_2, R_3, R_4, R_5, R_6, R_7, R_8, R_9, R_10, R_11⟩ := blk12 HR.out
    obtain ⟨h_0, h_1, h_2, h_3, h_4⟩ := blk5 Hh.out
    go_wp2_with (fail)
    refine (k1 _).mono ?_
    rintro e w2 ⟨rfl, hb2⟩
    have GR : Hid (w2.heap[w.heap.size]? = some (.cells #[.int .i64 R.i, .int .u32 (R.s : Int), .int .i64 R.sl, .int .u32 (R.d : Int), .int .i64 R.dl, .int .u16 (R.p.1 : Int), .int .u16 (R.p.2 : Int), .int .u16 (R.q.1 : Int), .int .u16 (R.q.2 : Int), .int .u8 (R.m.1 : Int), .int .u8 (R.m.2 : Int), .int .i64 R.act] 32)) := blk_on HR.out hb2
    have Gh : Hid (w2.heap[w.heap.size + 1]? = some (.cells #[.int .u32 (h.s : Int), .int .u32 (h.d : Int), .int .u16 (h.p : Int), .int .u16 (h.q : Int), .int .u8 (h.r : Int)] 34)) := blk_on Hh.out hb2
    have hbl2 : Hid (Below w.heap.size w w2) := bel_step hbl1.out (bel_a0 _) hb2
    clear HR Hh R_0 R_1 R_2 R_3 R_4 R_5 R_6 R_7 R_8 R_9 R_10 R_11 h_0 h_1 h_2 h_3 h_4 lR nR lh nh hb2 hbl1
    have HR := GR
    clear GR
    have Hh := Gh
    clear Gh
    have lR := blk_lt HR.out
    have nR : ¬ w.heap.size = w2.heap.size := by omega
    have lh := blk_lt Hh.out
    have nh : ¬ w.heap.size + 1 = w2.heap.size := by omega
    cases u1
    · go_wp2_with (fail)
      go_ret
      exact ⟨ret_same (by simp), hbl2.out⟩
    · skip
      obtain ⟨R_0, R_1, R_2, R_3, R_4, R_5, R_6, R_7, R_8, R_9, R_10, R_11⟩ := blk12 HR.out
      obtain ⟨h_0, h_1, h_2, h_3, h_4⟩ := blk5 Hh.out
      go_wp2_with (fail)
      refine (k2 _).mono ?_
      rintro e w3 ⟨rfl, hb3⟩
      have GR : Hid (w3.heap[w.heap.size]? = some (.cells #[.int .i64 R.i, .int .u32 (R.s : Int), .int .i64 R.sl, .int .u32 (R.d : Int), .int .i64 R.dl, .int .u16 (R.p.1 : Int), .int .u16 (R.p.2 : Int), .int .u16 (R.q.1 : Int), .int .u16 (R.q.2 : Int), .int .u8 (R.m.1 : Int), .int .u8 (R.m.2 : Int), .int .i64 R.act] 32)) := blk_on HR.out hb3
      have Gh : Hid (w3.heap[w.heap.size + 1]? = some (.cells #[.int .u32 (h.s : Int), .int .u32 (h.d : Int), .int .u16 (h.p : Int), .int .u16 (h.q : Int), .int .u8 (h.r : Int)] 34)) := blk_on Hh.out hb3
      have hbl3 : Hid (Below w.heap.size w w3) := bel_step hbl2.out (bel_a0 _) hb3
      clear HR Hh R_0 R_1 R_2 R_3 R_4 R_5 R_6 R_7 R_8 R_9 R_10 R_11 h_0 h_1 h_2 h_3 h_4 lR nR lh nh hb3 hbl2
      have HR := GR
      clear GR
      have Hh := Gh
      clear Gh
      have lR := blk_lt HR.out
      have nR : ¬ w.heap.size = w3.heap.size := by omega
      have lh := blk_lt Hh.out
      have nh : ¬ w.heap.size + 1 = w3.heap.size := by omega
      cases u2
      · go_wp2_with (fail)
        go_ret
        exact ⟨ret_same (by simp), hbl3.out⟩
      · skip
        obtain ⟨R_0, R_1, R_2, R_3, R_4, R_5, R_6, R_7, R_8, R_9, R_10, R_11⟩ := blk12 HR.out
        obtain ⟨h_0, h_1, h_2, h_3, h_4⟩ := blk5 Hh.out
        go_wp2_with (fail)
        refine (k3 _).mono ?_
        rintro e w4 ⟨rfl, hb4⟩
        have GR : Hid (w4.heap[w.heap.size]? = some (.cells #[.int .i64 R.i, .int .u32 (R.s : Int), .int .i64 R.sl, .int .u32 (R.d : Int), .int .i64 R.dl, .int .u16 (R.p.1 : Int), .int .u16 (R.p.2 : Int), .int .u16 (R.q.1 : Int), .int .u16 (R.q.2 : Int), .int .u8 (R.m.1 : Int), .int .u8 (R.m.2 : Int), .int .i64 R.act] 32)) := blk_on HR.out hb4
        have Gh : Hid (w4.heap[w.heap.size + 1]? = some (.cells #[.int .u32 (h.s : Int), .int .u32 (h.d : Int), .int .u16 (h.p : Int), .int .u16 (h.q : Int), .int .u8 (h.r : Int)] 34)) := blk_on Hh.out hb4
        have hbl4 : Hid (Below w.heap.size w w4) := bel_step hbl3.out (bel_a0 _) hb4
        clear HR Hh R_0 R_1 R_2 R_3 R_4 R_5 R_6 R_7 R_8 R_9 R_10 R_11 h_0 h_1 h_2 h_3 h_4 lR nR lh nh hb4 hbl3
        have HR := GR
        clear GR
        have Hh := Gh
        clear Gh
        have lR := blk_lt HR.out
        have nR : ¬ w.heap.size = w4.heap.size := by omega
        have lh := blk_lt Hh.out
        have nh : ¬ w.heap.size + 1 = w4.heap.size := by omega
        cases u3
        · go_wp2_with (fail)
          go_ret
          exact ⟨ret_same (by simp), hbl4.out⟩
        · skip
          obtain ⟨R_0, R_1, R_2, R_3, R_4, R_5, R_6, R_7, R_8, R_9, R_10, R_11⟩ := blk12 HR.out
          obtain ⟨h_0, h_1, h_2, h_3, h_4⟩ := blk5 Hh.out
          go_wp2_with (fail)
          refine (k4 _).mono ?_
          rintro e w5 ⟨rfl, hb5⟩
          have GR : Hid (w5.heap[w.heap.size]? = some (.cells #[.int .i64 R.i, .int .u32 (R.s : Int), .int .i64 R.sl, .int .u32 (R.d : Int), .int .i64 R.dl, .int .u16 (R.p.1 : Int), .int .u16 (R.p.2 : Int), .int .u16 (R.q.1 : Int), .int .u16 (R.q.2 : Int), .int .u8 (R.m.1 : Int), .int .u8 (R.m.2 : Int), .int .i64 R.act] 32)) := blk_on HR.out hb5
          have Gh : Hid (w5.heap[w.heap.size + 1]? = some (.cells #[.int .u32 (h.s : Int), .int .u32 (h.d : Int), .int .u16 (h.p : Int), .int .u16 (h.q : Int), .int .u8 (h.r : Int)] 34)) := blk_on Hh.out hb5
          have hbl5 : Hid (Below w.heap.size w w5) := bel_step hbl4.out (bel_a0 _) hb5
          clear HR Hh R_0 R_1 R_2 R_3 R_4 R_5 R_6 R_7 R_8 R_9 R_10 R_11 h_0 h_1 h_2 h_3 h_4 lR nR lh nh hb5 hbl4
          have HR := GR
          clear GR
          have Hh := Gh
          clear Gh
          have lR := blk_lt HR.out
          have nR : ¬ w.heap.size = w5.heap.size := by omega
          have lh := blk_lt Hh.out
          have nh : ¬ w.heap.size + 1 = w5.heap.size := by omega
          cases u4
          · go_wp2_with (fail)
            go_ret
            exact ⟨ret_same (by simp), hbl5.out⟩
          · skip
            obtain ⟨R_0, R_1, R_2, R_3, R_4, R_5, R_6, R_7, R_8, R_9, R_10, R_11⟩ := blk12 HR.out
            obtain ⟨h_0, h_1, h_2, h_3, h_4⟩ := blk5 Hh.out
            go_wp2_with (fail)
            refine (k5 _).mono ?_
            rintro e w6 ⟨rfl, hb6⟩
            have GR : Hid (w6.heap[w.heap.size]? = some (.cells #[.int .i64 R.i, .int .u32 (R.s : Int), .int .i64 R.sl, .int .u32 (R.d : Int), .int .i64 R.dl, .int .u16 (R.p.1 : Int), .int .u16 (R.p.2 : Int), .int .u16 (R.q.1 : Int), .int .u16 (R.q.2 : Int), .int .u8 (R.m.1 : Int), .int .u8 (R.m.2 : Int), .int .i64 R.act] 32)) := blk_on HR.out hb6
            have Gh : Hid (w6.heap[w.heap.size + 1]? = some (.cells #[.int .u32 (h.s : Int), .int .u32 (h.d : Int), .int .u16 (h.p : Int), .int .u16 (h.q : Int), .int .u8 (h.r : Int)] 34)) := blk_on Hh.out hb6
            have hbl6 : Hid (Below w.heap.size w w6) := bel_step hbl5.out (bel_a0 _) hb6
            clear HR Hh R_0 R_1 R_2 R_3 R_4 R_5 R_6 R_7 R_8 R_9 R_10 R_11 h_0 h_1 h_2 h_3 h_4 lR nR lh nh hb6 hbl5
            have HR := GR
            clear GR
            have Hh := Gh
            clear Gh
            have lR := blk_lt HR.out
            have nR : ¬ w.heap.size = w6.heap.size := by omega
            have lh := blk_lt Hh.out
            have nh : ¬ w.heap.size + 1 = w6.heap.size := by omega
            go_wp2_with (fail)
            go_ret
            exact ⟨ret_same (by simp), hbl6.out⟩
theorem boxA_no {R : Ru} (h : okR R = false) : boxA R = zeroX := by unfold boxA; rw [h]; rfl
theorem boxA_in {R : Ru} (h : okR R = true) : boxA R = boxR R := by unfold boxA; rw [if_pos h]
set_option maxRecDepth 20000 in
set_option maxHeartbeats 2000000 in
theorem boxC (R : Ru) (w : World) (b : BdR R) :
    Calls Tryz.prog 11 #[.agg #[.int .i64 R.i, .int .u32 (R.s : Int), .int .i64 R.sl, .int .u32 (R.d : Int), .int .i64 R.dl, .int .u16 (R.p.1 : Int), .int .u16 (R.p.2 : Int), .int .u16 (R.q.1 : Int), .int .u16 (R.q.2 : Int), .int .u8 (R.m.1 : Int), .int .u8 (R.m.2 : Int), .int .i64 R.act]] w fun e w' => e = .returned (.tuple #[.agg #[.int .u32 ((boxA R).a.1 : Int), .int .u32 ((boxA R).a.2 : Int), .int .u32 ((boxA R).b.1 : Int), .int .u32 ((boxA R).b.2 : Int), .int .u16 ((boxA R).c.1 : Int), .int .u16 ((boxA R).c.2 : Int), .int .u16 ((boxA R).d.1 : Int), .int .u16 ((boxA R).d.2 : Int), .int .u8 ((boxA R).m.1 : Int), .int .u8 ((boxA R).m.2 : Int)], .int .i64 (errs R).1]) ∧ Below w.heap.size w w' := by
  have hC := fun W => checkRC R W b
  cases ho : okR R
  · have hn := errs_no ho
    rw [boxA_no ho]
    generalize (errs R).1 = c at *
    generalize (errs R).2 = d at *
    clear ho b
    go_enter Tryz.func11, Tryz.ntmps11
    go_wp2_with (fail)
    refine (hC _).mono ?_
    rintro e w1 ⟨rfl, hb1⟩
    have GR : Hid (w1.heap[w.heap.size]? = some (.cells #[.int .i64 R.i, .int .u32 (R.s : Int), .int .i64 R.sl, .int .u32 (R.d : Int), .int .i64 R.dl, .int .u16 (R.p.1 : Int), .int .u16 (R.p.2 : Int), .int .u16 (R.q.1 : Int), .int .u16 (R.q.2 : Int), .int .u8 (R.m.1 : Int), .int .u8 (R.m.2 : Int), .int .i64 R.act] 32)) := blk_on (blk_alloc (blk_new w (.cells #[.int .i64 R.i, .int .u32 (R.s : Int), .int .i64 R.sl, .int .u32 (R.d : Int), .int .i64 R.dl, .int .u16 (R.p.1 : Int), .int .u16 (R.p.2 : Int), .int .u16 (R.q.1 : Int), .int .u16 (R.q.2 : Int), .int .u8 (R.m.1 : Int), .int .u8 (R.m.2 : Int), .int .i64 R.act] 32)) _) hb1
    have GX : Hid (w1.heap[w.heap.size + 1]? = some (.cells #[.int .u32 0, .int .u32 0, .int .u32 0, .int .u32 0, .int .u16 0, .int .u16 0, .int .u16 0, .int .u16 0, .int .u8 0, .int .u8 0] 41)) := blk_on (by simpa using blk_new (w.alloc (.cells #[.int .i64 R.i, .int .u32 (R.s : Int), .int .i64 R.sl, .int .u32 (R.d : Int), .int .i64 R.dl, .int .u16 (R.p.1 : Int), .int .u16 (R.p.2 : Int), .int .u16 (R.q.1 : Int), .int .u16 (R.q.2 : Int), .int .u8 (R.m.1 : Int), .int .u8 (R.m.2 : Int), .int .i64 R.act] 32)) (.cells #[.int .u32 0, .int .u32 0, .int .u32 0, .int .u32 0, .int .u16 0, .int .u16 0, .int .u16 0, .int .u16 0, .int .u8 0, .int .u8 0] 41)) hb1
    have hbl1 : Hid (Below w.heap.size w w1) := bel_step (Below.refl _ _) (bel_a2 _ _ _) hb1
    clear hb1
    have HR := GR
    clear GR
    have HX := GX
    clear GX
    have lR := blk_lt HR.out
    have nR : ¬ w.heap.size = w1.heap.size := by omega
    have lX := blk_lt HX.out
    have nX : ¬ w.heap.size + 1 = w1.heap.size := by omega
    go_wp2_with (refine wpList_store_blk rfl 41 (.tmp 2) (.tmp 17) rfl (w.heap.size + 1) 0 #[.int .u32 0, .int .u32 0, .int .u32 0, .int .u32 0, .int .u16 0, .int .u16 0, .int .u16 0, .int .u16 0, .int .u8 0, .int .u8 0] #[.int .u32 0, .int .u32 0, .int .u32 0, .int .u32 0, .int .u16 0, .int .u16 0, .int .u16 0, .int .u16 0, .int .u8 0, .int .u8 0] rfl rfl 41 _ HX.out (Nat.le_of_ble_eq_true rfl) rfl (by kernel_rfl) rfl ?_; intro w3 hw3 how3)
    exact bodyPost_ret (results_blk2 Tryz.results11 rfl hw3 Tryz.underlying41 rfl (by kernel_rfl)) rfl ⟨rfl, hbl1.out.trans (how3.below (by omega))⟩
  · rw [errs_ok ho] at hC ⊢
    rw [boxA_in ho]
    obtain ⟨b1, b2, _⟩ := b
    obtain ⟨_, c1, c2, _⟩ := (okR_iff R).1 ho
    have k1 := fun W => Pf.run_any R.s R.sl W b1
    have k2 := fun W => Pf.run_any R.d R.dl W b2
    rw [c1] at k1
    rw [c2] at k2
    have e : boxR R = ⟨(Pf.rL R.s R.sl, Pf.rH R.s R.sl), (Pf.rL R.d R.dl, Pf.rH R.d R.dl), R.p, R.q, R.m⟩ := by
      unfold boxR runP Pf.rL Pf.rH
      rw [if_pos c1, if_pos c1, if_pos c2, if_pos c2]
    rw [e]
    generalize Pf.rL R.s R.sl = p at *
    generalize Pf.rH R.s R.sl = q at *
    generalize Pf.rL R.d R.dl = r at *
    generalize Pf.rH R.d R.dl = s at *
    clear ho b1 b2 c1 c2 e
    go_enter Tryz.func11, Tryz.ntmps11
    go_wp2_with (fail)
    refine (hC _).mono ?_
    rintro e w1 ⟨rfl, hb1⟩
    have GR : Hid (w1.heap[w.heap.size]? = some (.cells #[.int .i64 R.i, .int .u32 (R.s : Int), .int .i64 R.sl, .int .u32 (R.d : Int), .int .i64 R.dl, .int .u16 (R.p.1 : Int), .int .u16 (R.p.2 : Int), .int .u16 (R.q.1 : Int), .int .u16 (R.q.2 : Int), .int .u8 (R.m.1 : Int), .int .u8 (R.m.2 : Int), .int .i64 R.act] 32)) := blk_on (blk_alloc (blk_new w (.cells #[.int .i64 R.i, .int .u32 (R.s : Int), .int .i64 R.sl, .int .u32 (R.d : Int), .int .i64 R.dl, .int .u16 (R.p.1 : Int), .int .u16 (R.p.2 : Int), .int .u16 (R.q.1 : Int), .int .u16 (R.q.2 : Int), .int .u8 (R.m.1 : Int), .int .u8 (R.m.2 : Int), .int .i64 R.act] 32)) _) hb1
    have GX : Hid (w1.heap[w.heap.size + 1]? = some (.cells #[.int .u32 0, .int .u32 0, .int .u32 0, .int .u32 0, .int .u16 0, .int .u16 0, .int .u16 0, .int .u16 0, .int .u8 0, .int .u8 0] 41)) := blk_on (by simpa using blk_new (w.alloc (.cells #[.int .i64 R.i, .int .u32 (R.s : Int), .int .i64 R.sl, .int .u32 (R.d : Int), .int .i64 R.dl, .int .u16 (R.p.1 : Int), .int .u16 (R.p.2 : Int), .int .u16 (R.q.1 : Int), .int .u16 (R.q.2 : Int), .int .u8 (R.m.1 : Int), .int .u8 (R.m.2 : Int), .int .i64 R.act] 32)) (.cells #[.int .u32 0, .int .u32 0, .int .u32 0, .int .u32 0, .int .u16 0, .int .u16 0, .int .u16 0, .int .u16 0, .int .u8 0, .int .u8 0] 41)) hb1
    have hbl1 : Hid (Below w.heap.size w w1) := bel_step (Below.refl _ _) (bel_a2 _ _ _) hb1
    clear hb1
    have HR := GR
    clear GR
    have HX := GX
    clear GX
    have lR := blk_lt HR.out
    have nR : ¬ w.heap.size = w1.heap.size := by omega
    have lX := blk_lt HX.out
    have nX : ¬ w.heap.size + 1 = w1.heap.size := by omega
    obtain ⟨R_0, R_1, R_2, R_3, R_4, R_5, R_6, R_7, R_8, R_9, R_10, R_11⟩ := blk12 HR.out
    go_wp2_with (fail)
    refine (k1 _).mono ?_
    rintro e w2 ⟨rfl, hb2⟩
    have GR : Hid (w2.heap[w.heap.size]? = some (.cells #[.int .i64 R.i, .int .u32 (R.s : Int), .int .i64 R.sl, .int .u32 (R.d : Int), .int .i64 R.dl, .int .u16 (R.p.1 : Int), .int .u16 (R.p.2 : Int), .int .u16 (R.q.1 : Int), .int .u16 (R.q.2 : Int), .int .u8 (R.m.1 : Int), .int .u8 (R.m.2 : Int), .int .i64 R.act] 32)) := blk_on HR.out hb2
    have GX : Hid (w2.heap[w.heap.size + 1]? = some (.cells #[.int .u32 0, .int .u32 0, .int .u32 0, .int .u32 0, .int .u16 0, .int .u16 0, .int .u16 0, .int .u16 0, .int .u8 0, .int .u8 0] 41)) := blk_on HX.out hb2
    have hbl2 : Hid (Below w.heap.size w w2) := bel_step hbl1.out (bel_a0 _) hb2
    clear HR HX R_0 R_1 R_2 R_3 R_4 R_5 R_6 R_7 R_8 R_9 R_10 R_11 lR nR lX nX hb2 hbl1
    have HR := GR
    clear GR
    have HX := GX
    clear GX
    have lR := blk_lt HR.out
    have nR : ¬ w.heap.size = w2.heap.size := by omega
    have lX := blk_lt HX.out
    have nX : ¬ w.heap.size + 1 = w2.heap.size := by omega
    obtain ⟨R_0, R_1, R_2, R_3, R_4, R_5, R_6, R_7, R_8, R_9, R_10, R_11⟩ := blk12 HR.out
    go_wp2_with (fail)
    refine (k2 _).mono ?_
    rintro e w3 ⟨rfl, hb3⟩
    have GR : Hid (w3.heap[w.heap.size]? = some (.cells #[.int .i64 R.i, .int .u32 (R.s : Int), .int .i64 R.sl, .int .u32 (R.d : Int), .int .i64 R.dl, .int .u16 (R.p.1 : Int), .int .u16 (R.p.2 : Int), .int .u16 (R.q.1 : Int), .int .u16 (R.q.2 : Int), .int .u8 (R.m.1 : Int), .int .u8 (R.m.2 : Int), .int .i64 R.act] 32)) := blk_on (blk_alloc HR.out _) hb3
    have GX : Hid (w3.heap[w.heap.size + 1]? = some (.cells #[.int .u32 0, .int .u32 0, .int .u32 0, .int .u32 0, .int .u16 0, .int .u16 0, .int .u16 0, .int .u16 0, .int .u8 0, .int .u8 0] 41)) := blk_on (blk_alloc HX.out _) hb3
    have GS : Hid (w3.heap[w2.heap.size]? = some (.cells #[.int .u32 (p : Int), .int .u32 (q : Int)] 39)) := blk_on (blk_new w2 (.cells #[.int .u32 (p : Int), .int .u32 (q : Int)] 39)) hb3
    have hbl3 : Hid (Below w.heap.size w w3) := bel_step hbl2.out (bel_a1 _ _) hb3
    clear HR HX R_0 R_1 R_2 R_3 R_4 R_5 R_6 R_7 R_8 R_9 R_10 R_11 lR nR lX nX hb3 hbl2
    have HR := GR
    clear GR
    have HX := GX
    clear GX
    have HS := GS
    clear GS
    have lR := blk_lt HR.out
    have nR : ¬ w.heap.size = w3.heap.size := by omega
    have lX := blk_lt HX.out
    have nX : ¬ w.heap.size + 1 = w3.heap.size := by omega
    have lS := blk_lt HS.out
    have nS : ¬ w2.heap.size = w3.heap.size := by omega
    obtain ⟨R_0, R_1, R_2, R_3, R_4, R_5, R_6, R_7, R_8, R_9, R_10, R_11⟩ := blk12 HR.out
    obtain ⟨S_0, S_1⟩ := blk2 HS.out
    have hXX : ((w3.alloc (.cells #[.int .u32 (r : Int), .int .u32 (s : Int)] 39))).heap[w.heap.size + 1]? = some (.cells #[.int .u32 0, .int .u32 0, .int .u32 0, .int .u32 0, .int .u16 0, .int .u16 0, .int .u16 0, .int .u16 0, .int .u8 0, .int .u8 0] 41) := (blk_alloc HX.out _)
    go_wp2_with (refine wpList_store_blk rfl 41 (.tmp 2) (.tmp 39) rfl (w.heap.size + 1) 0 #[.int .u32 (p : Int), .int .u32 (q : Int), .int .u32 (r : Int), .int .u32 (s : Int), .int .u16 (R.p.1 : Int), .int .u16 (R.p.2 : Int), .int .u16 (R.q.1 : Int), .int .u16 (R.q.2 : Int), .int .u8 (R.m.1 : Int), .int .u8 (R.m.2 : Int)] #[.int .u32 (p : Int), .int .u32 (q : Int), .int .u32 (r : Int), .int .u32 (s : Int), .int .u16 (R.p.1 : Int), .int .u16 (R.p.2 : Int), .int .u16 (R.q.1 : Int), .int .u16 (R.q.2 : Int), .int .u8 (R.m.1 : Int), .int .u8 (R.m.2 : Int)] rfl rfl 41 _ hXX (Nat.le_of_ble_eq_true rfl) rfl (by kernel_rfl) rfl ?_; intro w8 hw8 how8)
    have hbl9 : Below w.heap.size w w8 := (bel_step hbl3.out (bel_a1 _ _) (Below.refl _ _)).trans (how8.below (by omega))
    exact bodyPost_ret (results_blk2 Tryz.results11 rfl hw8 Tryz.underlying41 rfl (by kernel_rfl)) rfl ⟨rfl, hbl9⟩
set_option maxRecDepth 20000 in
set_option maxHeartbeats 2000000 in
theorem countRC (R : Ru) (w : World) (b : BdR R) :
    Calls Tryz.prog 13 #[.agg #[.int .i64 R.i, .int .u32 (R.s : Int), .int .i64 R.sl, .int .u32 (R.d : Int), .int .i64 R.dl, .int .u16 (R.p.1 : Int), .int .u16 (R.p.2 : Int), .int .u16 (R.q.1 : Int), .int .u16 (R.q.2 : Int), .int .u8 (R.m.1 : Int), .int .u8 (R.m.2 : Int), .int .i64 R.act]] w fun e w' => e = .returned (.tuple #[.int .u64 ((hiW (cntR R) : Nat) : Int), .int .u64 ((loW (cntR R) : Nat) : Int)]) ∧ Below w.heap.size w w' := by
  have hC := fun W => boxC R W b
  cases ho : okR R
  · have hn := errs_no ho
    rw [boxA_no ho] at hC
    rw [show cntR R = 0 by unfold cntR; rw [ho]; rfl]
    generalize (errs R).1 = c at *
    clear ho b
    have hC' : ∀ W, Calls Tryz.prog 11 #[.agg #[.int .i64 R.i, .int .u32 (R.s : Int), .int .i64 R.sl, .int .u32 (R.d : Int), .int .i64 R.dl, .int .u16 (R.p.1 : Int), .int .u16 (R.p.2 : Int), .int .u16 (R.q.1 : Int), .int .u16 (R.q.2 : Int), .int .u8 (R.m.1 : Int), .int .u8 (R.m.2 : Int), .int .i64 R.act]] W fun e w' => e = .returned (.tuple #[.agg #[.int .u32 0, .int .u32 0, .int .u32 0, .int .u32 0, .int .u16 0, .int .u16 0, .int .u16 0, .int .u16 0, .int .u8 0, .int .u8 0], .int .i64 c]) ∧ Below W.heap.size W w' := hC
    clear hC
    go_enter Tryz.func13, Tryz.ntmps13
    go_wp2_with (fail)
    refine (hC' _).mono ?_
    rintro e w1 ⟨rfl, hb1⟩
    have GR : Hid (w1.heap[w.heap.size]? = some (.cells #[.int .i64 R.i, .int .u32 (R.s : Int), .int .i64 R.sl, .int .u32 (R.d : Int), .int .i64 R.dl, .int .u16 (R.p.1 : Int), .int .u16 (R.p.2 : Int), .int .u16 (R.q.1 : Int), .int .u16 (R.q.2 : Int), .int .u8 (R.m.1 : Int), .int .u8 (R.m.2 : Int), .int .i64 R.act] 32)) := blk_on (blk_new w (.cells #[.int .i64 R.i, .int .u32 (R.s : Int), .int .i64 R.sl, .int .u32 (R.d : Int), .int .i64 R.dl, .int .u16 (R.p.1 : Int), .int .u16 (R.p.2 : Int), .int .u16 (R.q.1 : Int), .int .u16 (R.q.2 : Int), .int .u8 (R.m.1 : Int), .int .u8 (R.m.2 : Int), .int .i64 R.act] 32)) hb1
    have hbl1 : Hid (Below w.heap.size w w1) := bel_step (Below.refl _ _) (bel_a1 _ _) hb1
    clear hb1
    have HR := GR
    clear GR
    have lR := blk_lt HR.out
    have nR : ¬ w.heap.size = w1.heap.size := by omega
    go_wp2_with (fail)
    exact bodyPost_ret (v := .tuple #[.int .u64 0, .int .u64 0]) (by simp [results, Tryz.results13, go_sem]) rfl ⟨rfl, (bel_step hbl1.out (bel_a1 _ _) (Below.refl _ _))⟩
  · rw [errs_ok ho, boxA_in ho] at hC
    rw [cntR_in ho]
    have hN := fun W => countXC (boxR R) W (boxR_bd b ho)
    generalize boxR R = X at *
    generalize hiW (cntX X) = p at *
    generalize loW (cntX X) = q at *
    clear ho b
    go_enter Tryz.func13, Tryz.ntmps13
    go_wp2_with (fail)
    refine (hC _).mono ?_
    rintro e w1 ⟨rfl, hb1⟩
    have GR : Hid (w1.heap[w.heap.size]? = some (.cells #[.int .i64 R.i, .int .u32 (R.s : Int), .int .i64 R.sl, .int .u32 (R.d : Int), .int .i64 R.dl, .int .u16 (R.p.1 : Int), .int .u16 (R.p.2 : Int), .int .u16 (R.q.1 : Int), .int .u16 (R.q.2 : Int), .int .u8 (R.m.1 : Int), .int .u8 (R.m.2 : Int), .int .i64 R.act] 32)) := blk_on (blk_new w (.cells #[.int .i64 R.i, .int .u32 (R.s : Int), .int .i64 R.sl, .int .u32 (R.d : Int), .int .i64 R.dl, .int .u16 (R.p.1 : Int), .int .u16 (R.p.2 : Int), .int .u16 (R.q.1 : Int), .int .u16 (R.q.2 : Int), .int .u8 (R.m.1 : Int), .int .u8 (R.m.2 : Int), .int .i64 R.act] 32)) hb1
    have hbl1 : Hid (Below w.heap.size w w1) := bel_step (Below.refl _ _) (bel_a1 _ _) hb1
    clear hb1
    have HR := GR
    clear GR
    have lR := blk_lt HR.out
    have nR : ¬ w.heap.size = w1.heap.size := by omega
    go_wp2_with (fail)
    refine (hN _).mono ?_
    rintro e w2 ⟨rfl, hb2⟩
    have GR : Hid (w2.heap[w.heap.size]? = some (.cells #[.int .i64 R.i, .int .u32 (R.s : Int), .int .i64 R.sl, .int .u32 (R.d : Int), .int .i64 R.dl, .int .u16 (R.p.1 : Int), .int .u16 (R.p.2 : Int), .int .u16 (R.q.1 : Int), .int .u16 (R.q.2 : Int), .int .u8 (R.m.1 : Int), .int .u8 (R.m.2 : Int), .int .i64 R.act] 32)) := blk_on (blk_alloc HR.out _) hb2
    have GX : Hid (w2.heap[w1.heap.size]? = some (.cells #[.int .u32 (X.a.1 : Int), .int .u32 (X.a.2 : Int), .int .u32 (X.b.1 : Int), .int .u32 (X.b.2 : Int), .int .u16 (X.c.1 : Int), .int .u16 (X.c.2 : Int), .int .u16 (X.d.1 : Int), .int .u16 (X.d.2 : Int), .int .u8 (X.m.1 : Int), .int .u8 (X.m.2 : Int)] 41)) := blk_on (blk_new w1 (.cells #[.int .u32 (X.a.1 : Int), .int .u32 (X.a.2 : Int), .int .u32 (X.b.1 : Int), .int .u32 (X.b.2 : Int), .int .u16 (X.c.1 : Int), .int .u16 (X.c.2 : Int), .int .u16 (X.d.1 : Int), .int .u16 (X.d.2 : Int), .int .u8 (X.m.1 : Int), .int .u8 (X.m.2 : Int)] 41)) hb2
    have hbl2 : Hid (Below w.heap.size w w2) := bel_step hbl1.out (bel_a1 _ _) hb2
    clear HR lR nR hb2 hbl1
    have HR := GR
    clear GR
    have HX := GX
    clear GX
    have lR := blk_lt HR.out
    have nR : ¬ w.heap.size = w2.heap.size := by omega
    have lX := blk_lt HX.out
    have nX : ¬ w1.heap.size = w2.heap.size := by omega
    go_wp2_with (fail)
    exact bodyPost_ret (v := .tuple #[.int .u64 (p : Int), .int .u64 (q : Int)]) (by simp [results, Tryz.results13, go_sem]) rfl ⟨rfl, hbl2.out⟩
theorem wiR_in {A B : Ru} (ha : okR A = true) (hb : okR B = true) : wiR A B = (Pf.witB A.s A.sl B.s B.sl && Pf.witB A.d A.dl B.d B.dl && wiS A.p.1 A.p.2 B.p.1 B.p.2 && wiS A.q.1 A.q.2 B.q.1 B.q.2 && wiM A.m.1 A.m.2 B.m.1 B.m.2) := by
  obtain ⟨_, a2, a3, a4, a5, a6, _⟩ := (okR_iff A).1 ha
  obtain ⟨_, b2, b3, b4, b5, b6, _⟩ := (okR_iff B).1 hb
  have a4 := of_decide_eq_true a4
  have a5 := of_decide_eq_true a5
  unfold wiR Pf.witB Pf.hasB wiS
  rw [ha, hb]
  simp only [a2, a3, a4, a5, b2, b3, true_and, Bool.true_and, decide_eq_true_eq]
theorem wiR_out {A B : Ru} (h : okR A = false ∨ okR B = false) : wiR A B = false := wiR_no h
set_option maxRecDepth 20000 in
set_option maxHeartbeats 2000000 in
theorem withinRC (A B : Ru) (w : World) (bA : BdR A) (bB : BdR B) :
    Calls Tryz.prog 20 #[.agg #[.int .i64 A.i, .int .u32 (A.s : Int), .int .i64 A.sl, .int .u32 (A.d : Int), .int .i64 A.dl, .int .u16 (A.p.1 : Int), .int .u16 (A.p.2 : Int), .int .u16 (A.q.1 : Int), .int .u16 (A.q.2 : Int), .int .u8 (A.m.1 : Int), .int .u8 (A.m.2 : Int), .int .i64 A.act], .agg #[.int .i64 B.i, .int .u32 (B.s : Int), .int .i64 B.sl, .int .u32 (B.d : Int), .int .i64 B.dl, .int .u16 (B.p.1 : Int), .int .u16 (B.p.2 : Int), .int .u16 (B.q.1 : Int), .int .u16 (B.q.2 : Int), .int .u8 (B.m.1 : Int), .int .u8 (B.m.2 : Int), .int .i64 B.act]] w fun e w' => e = .returned (.bool (wiR A B)) ∧ Below w.heap.size w w' := by
  have hA := fun W => mayBeC A W bA
  have hB := fun W => mayBeC B W bB
  cases ha : okR A
  · rw [ha] at hA
    rw [wiR_out (.inl ha)]
    clear ha bA bB hB
    go_enter Tryz.func20, Tryz.ntmps20
    go_wp2_with (fail)
    refine (hA _).mono ?_
    rintro e w1 ⟨rfl, hb1⟩
    have GA : Hid (w1.heap[w.heap.size]? = some (.cells #[.int .i64 A.i, .int .u32 (A.s : Int), .int .i64 A.sl, .int .u32 (A.d : Int), .int .i64 A.dl, .int .u16 (A.p.1 : Int), .int .u16 (A.p.2 : Int), .int .u16 (A.q.1 : Int), .int .u16 (A.q.2 : Int), .int .u8 (A.m.1 : Int), .int .u8 (A.m.2 : Int), .int .i64 A.act] 32)) := blk_on (blk_alloc (blk_new w (.cells #[.int .i64 A.i, .int .u32 (A.s : Int), .int .i64 A.sl, .int .u32 (A.d : Int), .int .i64 A.dl, .int .u16 (A.p.1 : Int), .int .u16 (A.p.2 : Int), .int .u16 (A.q.1 : Int), .int .u16 (A.q.2 : Int), .int .u8 (A.m.1 : Int), .int .u8 (A.m.2 : Int), .int .i64 A.act] 32)) _) hb1
    have GB : Hid (w1.heap[w.heap.size + 1]? = some (.cells #[.int .i64 B.i, .int .u32 (B.s : Int), .int .i64 B.sl, .int .u32 (B.d : Int), .int .i64 B.dl, .int .u16 (B.p.1 : Int), .int .u16 (B.p.2 : Int), .int .u16 (B.q.1 : Int), .int .u16 (B.q.2 : Int), .int .u8 (B.m.1 : Int), .int .u8 (B.m.2 : Int), .int .i64 B.act] 32)) := blk_on (by simpa using blk_new (w.alloc (.cells #[.int .i64 A.i, .int .u32 (A.s : Int), .int .i64 A.sl, .int .u32 (A.d : Int), .int .i64 A.dl, .int .u16 (A.p.1 : Int), .int .u16 (A.p.2 : Int), .int .u16 (A.q.1 : Int), .int .u16 (A.q.2 : Int), .int .u8 (A.m.1 : Int), .int .u8 (A.m.2 : Int), .int .i64 A.act] 32)) (.cells #[.int .i64 B.i, .int .u32 (B.s : Int), .int .i64 B.sl, .int .u32 (B.d : Int), .int .i64 B.dl, .int .u16 (B.p.1 : Int), .int .u16 (B.p.2 : Int), .int .u16 (B.q.1 : Int), .int .u16 (B.q.2 : Int), .int .u8 (B.m.1 : Int), .int .u8 (B.m.2 : Int), .int .i64 B.act] 32)) hb1
    have hbl1 : Hid (Below w.heap.size w w1) := bel_step (Below.refl _ _) (bel_a2 _ _ _) hb1
    clear hb1
    have HA := GA
    clear GA
    have HB := GB
    clear GB
    have lA := blk_lt HA.out
    have nA : ¬ w.heap.size = w1.heap.size := by omega
    have lB := blk_lt HB.out
    have nB : ¬ w.heap.size + 1 = w1.heap.size := by omega
    go_wp2_with (fail)
    go_ret
    exact ⟨rfl, hbl1.out⟩
  · rw [ha] at hA
    cases hb : okR B
    · rw [hb] at hB
      rw [wiR_out (.inr hb)]
      clear ha hb bA bB
      go_enter Tryz.func20, Tryz.ntmps20
      go_wp2_with (fail)
      refine (hA _).mono ?_
      rintro e w1 ⟨rfl, hb1⟩
      have GA : Hid (w1.heap[w.heap.size]? = some (.cells #[.int .i64 A.i, .int .u32 (A.s : Int), .int .i64 A.sl, .int .u32 (A.d : Int), .int .i64 A.dl, .int .u16 (A.p.1 : Int), .int .u16 (A.p.2 : Int), .int .u16 (A.q.1 : Int), .int .u16 (A.q.2 : Int), .int .u8 (A.m.1 : Int), .int .u8 (A.m.2 : Int), .int .i64 A.act] 32)) := blk_on (blk_alloc (blk_new w (.cells #[.int .i64 A.i, .int .u32 (A.s : Int), .int .i64 A.sl, .int .u32 (A.d : Int), .int .i64 A.dl, .int .u16 (A.p.1 : Int), .int .u16 (A.p.2 : Int), .int .u16 (A.q.1 : Int), .int .u16 (A.q.2 : Int), .int .u8 (A.m.1 : Int), .int .u8 (A.m.2 : Int), .int .i64 A.act] 32)) _) hb1
      have GB : Hid (w1.heap[w.heap.size + 1]? = some (.cells #[.int .i64 B.i, .int .u32 (B.s : Int), .int .i64 B.sl, .int .u32 (B.d : Int), .int .i64 B.dl, .int .u16 (B.p.1 : Int), .int .u16 (B.p.2 : Int), .int .u16 (B.q.1 : Int), .int .u16 (B.q.2 : Int), .int .u8 (B.m.1 : Int), .int .u8 (B.m.2 : Int), .int .i64 B.act] 32)) := blk_on (by simpa using blk_new (w.alloc (.cells #[.int .i64 A.i, .int .u32 (A.s : Int), .int .i64 A.sl, .int .u32 (A.d : Int), .int .i64 A.dl, .int .u16 (A.p.1 : Int), .int .u16 (A.p.2 : Int), .int .u16 (A.q.1 : Int), .int .u16 (A.q.2 : Int), .int .u8 (A.m.1 : Int), .int .u8 (A.m.2 : Int), .int .i64 A.act] 32)) (.cells #[.int .i64 B.i, .int .u32 (B.s : Int), .int .i64 B.sl, .int .u32 (B.d : Int), .int .i64 B.dl, .int .u16 (B.p.1 : Int), .int .u16 (B.p.2 : Int), .int .u16 (B.q.1 : Int), .int .u16 (B.q.2 : Int), .int .u8 (B.m.1 : Int), .int .u8 (B.m.2 : Int), .int .i64 B.act] 32)) hb1
      have hbl1 : Hid (Below w.heap.size w w1) := bel_step (Below.refl _ _) (bel_a2 _ _ _) hb1
      clear hb1
      have HA := GA
      clear GA
      have HB := GB
      clear GB
      have lA := blk_lt HA.out
      have nA : ¬ w.heap.size = w1.heap.size := by omega
      have lB := blk_lt HB.out
      have nB : ¬ w.heap.size + 1 = w1.heap.size := by omega
      obtain ⟨B_0, B_1, B_2, B_3, B_4, B_5, B_6, B_7, B_8, B_9, B_10, B_11⟩ := blk12 HB.out
      go_wp2_with (fail)
      refine (hB _).mono ?_
      rintro e w2 ⟨rfl, hb2⟩
      have GA : Hid (w2.heap[w.heap.size]? = some (.cells #[.int .i64 A.i, .int .u32 (A.s : Int), .int .i64 A.sl, .int .u32 (A.d : Int), .int .i64 A.dl, .int .u16 (A.p.1 : Int), .int .u16 (A.p.2 : Int), .int .u16 (A.q.1 : Int), .int .u16 (A.q.2 : Int), .int .u8 (A.m.1 : Int), .int .u8 (A.m.2 : Int), .int .i64 A.act] 32)) := blk_on HA.out hb2
      have GB : Hid (w2.heap[w.heap.size + 1]? = some (.cells #[.int .i64 B.i, .int .u32 (B.s : Int), .int .i64 B.sl, .int .u32 (B.d : Int), .int .i64 B.dl, .int .u16 (B.p.1 : Int), .int .u16 (B.p.2 : Int), .int .u16 (B.q.1 : Int), .int .u16 (B.q.2 : Int), .int .u8 (B.m.1 : Int), .int .u8 (B.m.2 : Int), .int .i64 B.act] 32)) := blk_on HB.out hb2
      have hbl2 : Hid (Below w.heap.size w w2) := bel_step hbl1.out (bel_a0 _) hb2
      clear HA HB B_0 B_1 B_2 B_3 B_4 B_5 B_6 B_7 B_8 B_9 B_10 B_11 lA nA lB nB hb2 hbl1
      have HA := GA
      clear GA
      have HB := GB
      clear GB
      have lA := blk_lt HA.out
      have nA : ¬ w.heap.size = w2.heap.size := by omega
      have lB := blk_lt HB.out
      have nB : ¬ w.heap.size + 1 = w2.heap.size := by omega
      go_wp2_with (fail)
      go_ret
      exact ⟨rfl, hbl2.out⟩
    · rw [hb] at hB
      rw [wiR_in ha hb]
      obtain ⟨b1, b2, b3, b4, b5, b6, b7, b8, _⟩ := bA
      obtain ⟨d1, d2, d3, d4, d5, d6, d7, d8, _⟩ := bB
      have k1 := fun W => Pf.within_any A.s A.sl B.s B.sl W b1 d1
      have k2 := fun W => Pf.within_any A.d A.dl B.d B.dl W b2 d2
      have k3 := fun W => withinSp A.p.1 A.p.2 B.p.1 B.p.2 W
      have k4 := fun W => withinSp A.q.1 A.q.2 B.q.1 B.q.2 W
      have k5 := fun W => withinM A.m.1 A.m.2 B.m.1 B.m.2 W b7 b8 d7 d8
      generalize Pf.witB A.s A.sl B.s B.sl = u1 at *
      generalize Pf.witB A.d A.dl B.d B.dl = u2 at *
      generalize wiS A.p.1 A.p.2 B.p.1 B.p.2 = u3 at *
      generalize wiS A.q.1 A.q.2 B.q.1 B.q.2 = u4 at *
      generalize wiM A.m.1 A.m.2 B.m.1 B.m.2 = u5 at *
      clear ha hb b1 b2 b3 b4 b5 b6 b7 b8 d1 d2 d3 d4 d5 d6 d7 d8
      go_enter Tryz.func20, Tryz.ntmps20
      go_wp2_with (fail)
      refine (hA _).mono ?_
      rintro e w1 ⟨rfl, hb1⟩
      have GA : Hid (w1.heap[w.heap.size]? = some (.cells #[.int .i64 A.i, .int .u32 (A.s : Int), .int .i64 A.sl, .int .u32 (A.d : Int), .int .i64 A.dl, .int .u16 (A.p.1 : Int), .int .u16 (A.p.2 : Int), .int .u16 (A.q.1 : Int), .int .u16 (A.q.2 : Int), .int .u8 (A.m.1 : Int), .int .u8 (A.m.2 : Int), .int .i64 A.act] 32)) := blk_on (blk_alloc (blk_new w (.cells #[.int .i64 A.i, .int .u32 (A.s : Int), .int .i64 A.sl, .int .u32 (A.d : Int), .int .i64 A.dl, .int .u16 (A.p.1 : Int), .int .u16 (A.p.2 : Int), .int .u16 (A.q.1 : Int), .int .u16 (A.q.2 : Int), .int .u8 (A.m.1 : Int), .int .u8 (A.m.2 : Int), .int .i64 A.act] 32)) _) hb1
      have GB : Hid (w1.heap[w.heap.size + 1]? = some (.cells #[.int .i64 B.i, .int .u32 (B.s : Int), .int .i64 B.sl, .int .u32 (B.d : Int), .int .i64 B.dl, .int .u16 (B.p.1 : Int), .int .u16 (B.p.2 : Int), .int .u16 (B.q.1 : Int), .int .u16 (B.q.2 : Int), .int .u8 (B.m.1 : Int), .int .u8 (B.m.2 : Int), .int .i64 B.act] 32)) := blk_on (by simpa using blk_new (w.alloc (.cells #[.int .i64 A.i, .int .u32 (A.s : Int), .int .i64 A.sl, .int .u32 (A.d : Int), .int .i64 A.dl, .int .u16 (A.p.1 : Int), .int .u16 (A.p.2 : Int), .int .u16 (A.q.1 : Int), .int .u16 (A.q.2 : Int), .int .u8 (A.m.1 : Int), .int .u8 (A.m.2 : Int), .int .i64 A.act] 32)) (.cells #[.int .i64 B.i, .int .u32 (B.s : Int), .int .i64 B.sl, .int .u32 (B.d : Int), .int .i64 B.dl, .int .u16 (B.p.1 : Int), .int .u16 (B.p.2 : Int), .int .u16 (B.q.1 : Int), .int .u16 (B.q.2 : Int), .int .u8 (B.m.1 : Int), .int .u8 (B.m.2 : Int), .int .i64 B.act] 32)) hb1
      have hbl1 : Hid (Below w.heap.size w w1) := bel_step (Below.refl _ _) (bel_a2 _ _ _) hb1
      clear hb1
      have HA := GA
      clear GA
      have HB := GB
      clear GB
      have lA := blk_lt HA.out
      have nA : ¬ w.heap.size = w1.heap.size := by omega
      have lB := blk_lt HB.out
      have nB : ¬ w.heap.size + 1 = w1.heap.size := by omega
      obtain ⟨B_0, B_1, B_2, B_3, B_4, B_5, B_6, B_7, B_8, B_9, B_10, B_11⟩ := blk12 HB.out
      go_wp2_with (fail)
      refine (hB _).mono ?_
      rintro e w2 ⟨rfl, hb2⟩
      have GA : Hid (w2.heap[w.heap.size]? = some (.cells #[.int .i64 A.i, .int .u32 (A.s : Int), .int .i64 A.sl, .int .u32 (A.d : Int), .int .i64 A.dl, .int .u16 (A.p.1 : Int), .int .u16 (A.p.2 : Int), .int .u16 (A.q.1 : Int), .int .u16 (A.q.2 : Int), .int .u8 (A.m.1 : Int), .int .u8 (A.m.2 : Int), .int .i64 A.act] 32)) := blk_on HA.out hb2
      have GB : Hid (w2.heap[w.heap.size + 1]? = some (.cells #[.int .i64 B.i, .int .u32 (B.s : Int), .int .i64 B.sl, .int .u32 (B.d : Int), .int .i64 B.dl, .int .u16 (B.p.1 : Int), .int .u16 (B.p.2 : Int), .int .u16 (B.q.1 : Int), .int .u16 (B.q.2 : Int), .int .u8 (B.m.1 : Int), .int .u8 (B.m.2 : Int), .int .i64 B.act] 32)) := blk_on HB.out hb2
      have hbl2 : Hid (Below w.heap.size w w2) := bel_step hbl1.out (bel_a0 _) hb2
      clear HA HB B_0 B_1 B_2 B_3 B_4 B_5 B_6 B_7 B_8 B_9 B_10 B_11 lA nA lB nB hb2 hbl1
      have HA := GA
      clear GA
      have HB := GB
      clear GB
      have lA := blk_lt HA.out
      have nA : ¬ w.heap.size = w2.heap.size := by omega
      have lB := blk_lt HB.out
      have nB : ¬ w.heap.size + 1 = w2.heap.size := by omega
      obtain ⟨A_0, A_1, A_2, A_3, A_4, A_5, A_6, A_7, A_8, A_9, A_10, A_11⟩ := blk12 HA.out
      obtain ⟨B_0, B_1, B_2, B_3, B_4, B_5, B_6, B_7, B_8, B_9, B_10, B_11⟩ := blk12 HB.out
      go_wp2_with (fail)
      refine (k1 _).mono ?_
      rintro e w3 ⟨rfl, hb3⟩
      have GA : Hid (w3.heap[w.heap.size]? = some (.cells #[.int .i64 A.i, .int .u32 (A.s : Int), .int .i64 A.sl, .int .u32 (A.d : Int), .int .i64 A.dl, .int .u16 (A.p.1 : Int), .int .u16 (A.p.2 : Int), .int .u16 (A.q.1 : Int), .int .u16 (A.q.2 : Int), .int .u8 (A.m.1 : Int), .int .u8 (A.m.2 : Int), .int .i64 A.act] 32)) := blk_on HA.out hb3
      have GB : Hid (w3.heap[w.heap.size + 1]? = some (.cells #[.int .i64 B.i, .int .u32 (B.s : Int), .int .i64 B.sl, .int .u32 (B.d : Int), .int .i64 B.dl, .int .u16 (B.p.1 : Int), .int .u16 (B.p.2 : Int), .int .u16 (B.q.1 : Int), .int .u16 (B.q.2 : Int), .int .u8 (B.m.1 : Int), .int .u8 (B.m.2 : Int), .int .i64 B.act] 32)) := blk_on HB.out hb3
      have hbl3 : Hid (Below w.heap.size w w3) := bel_step hbl2.out (bel_a0 _) hb3
      clear HA HB A_0 A_1 A_2 A_3 A_4 A_5 A_6 A_7 A_8 A_9 A_10 A_11 B_0 B_1 B_2 B_3 B_4 B_5 B_6 B_7 B_8 B_9 B_10 B_11 lA nA lB nB hb3 hbl2
      have HA := GA
      clear GA
      have HB := GB
      clear GB
      have lA := blk_lt HA.out
      have nA : ¬ w.heap.size = w3.heap.size := by omega
      have lB := blk_lt HB.out
      have nB : ¬ w.heap.size + 1 = w3.heap.size := by omega
      cases u1
      · go_wp2_with (fail)
        go_ret
        exact ⟨ret_same (by simp), hbl3.out⟩
      · skip
        obtain ⟨A_0, A_1, A_2, A_3, A_4, A_5, A_6, A_7, A_8, A_9, A_10, A_11⟩ := blk12 HA.out
        obtain ⟨B_0, B_1, B_2, B_3, B_4, B_5, B_6, B_7, B_8, B_9, B_10, B_11⟩ := blk12 HB.out
        go_wp2_with (fail)
        refine (k2 _).mono ?_
        rintro e w4 ⟨rfl, hb4⟩
        have GA : Hid (w4.heap[w.heap.size]? = some (.cells #[.int .i64 A.i, .int .u32 (A.s : Int), .int .i64 A.sl, .int .u32 (A.d : Int), .int .i64 A.dl, .int .u16 (A.p.1 : Int), .int .u16 (A.p.2 : Int), .int .u16 (A.q.1 : Int), .int .u16 (A.q.2 : Int), .int .u8 (A.m.1 : Int), .int .u8 (A.m.2 : Int), .int .i64 A.act] 32)) := blk_on HA.out hb4
        have GB : Hid (w4.heap[w.heap.size + 1]? = some (.cells #[.int .i64 B.i, .int .u32 (B.s : Int), .int .i64 B.sl, .int .u32 (B.d : Int), .int .i64 B.dl, .int .u16 (B.p.1 : Int), .int .u16 (B.p.2 : Int), .int .u16 (B.q.1 : Int), .int .u16 (B.q.2 : Int), .int .u8 (B.m.1 : Int), .int .u8 (B.m.2 : Int), .int .i64 B.act] 32)) := blk_on HB.out hb4
        have hbl4 : Hid (Below w.heap.size w w4) := bel_step hbl3.out (bel_a0 _) hb4
        clear HA HB A_0 A_1 A_2 A_3 A_4 A_5 A_6 A_7 A_8 A_9 A_10 A_11 B_0 B_1 B_2 B_3 B_4 B_5 B_6 B_7 B_8 B_9 B_10 B_11 lA nA lB nB hb4 hbl3
        have HA := GA
        clear GA
        have HB := GB
        clear GB
        have lA := blk_lt HA.out
        have nA : ¬ w.heap.size = w4.heap.size := by omega
        have lB := blk_lt HB.out
        have nB : ¬ w.heap.size + 1 = w4.heap.size := by omega
        cases u2
        · go_wp2_with (fail)
          go_ret
          exact ⟨ret_same (by simp), hbl4.out⟩
        · skip
          obtain ⟨A_0, A_1, A_2, A_3, A_4, A_5, A_6, A_7, A_8, A_9, A_10, A_11⟩ := blk12 HA.out
          obtain ⟨B_0, B_1, B_2, B_3, B_4, B_5, B_6, B_7, B_8, B_9, B_10, B_11⟩ := blk12 HB.out
          go_wp2_with (fail)
          refine (k3 _).mono ?_
          rintro e w5 ⟨rfl, hb5⟩
          have GA : Hid (w5.heap[w.heap.size]? = some (.cells #[.int .i64 A.i, .int .u32 (A.s : Int), .int .i64 A.sl, .int .u32 (A.d : Int), .int .i64 A.dl, .int .u16 (A.p.1 : Int), .int .u16 (A.p.2 : Int), .int .u16 (A.q.1 : Int), .int .u16 (A.q.2 : Int), .int .u8 (A.m.1 : Int), .int .u8 (A.m.2 : Int), .int .i64 A.act] 32)) := blk_on HA.out hb5
          have GB : Hid (w5.heap[w.heap.size + 1]? = some (.cells #[.int .i64 B.i, .int .u32 (B.s : Int), .int .i64 B.sl, .int .u32 (B.d : Int), .int .i64 B.dl, .int .u16 (B.p.1 : Int), .int .u16 (B.p.2 : Int), .int .u16 (B.q.1 : Int), .int .u16 (B.q.2 : Int), .int .u8 (B.m.1 : Int), .int .u8 (B.m.2 : Int), .int .i64 B.act] 32)) := blk_on HB.out hb5
          have hbl5 : Hid (Below w.heap.size w w5) := bel_step hbl4.out (bel_a0 _) hb5
          clear HA HB A_0 A_1 A_2 A_3 A_4 A_5 A_6 A_7 A_8 A_9 A_10 A_11 B_0 B_1 B_2 B_3 B_4 B_5 B_6 B_7 B_8 B_9 B_10 B_11 lA nA lB nB hb5 hbl4
          have HA := GA
          clear GA
          have HB := GB
          clear GB
          have lA := blk_lt HA.out
          have nA : ¬ w.heap.size = w5.heap.size := by omega
          have lB := blk_lt HB.out
          have nB : ¬ w.heap.size + 1 = w5.heap.size := by omega
          cases u3
          · go_wp2_with (fail)
            go_ret
            exact ⟨ret_same (by simp), hbl5.out⟩
          · skip
            obtain ⟨A_0, A_1, A_2, A_3, A_4, A_5, A_6, A_7, A_8, A_9, A_10, A_11⟩ := blk12 HA.out
            obtain ⟨B_0, B_1, B_2, B_3, B_4, B_5, B_6, B_7, B_8, B_9, B_10, B_11⟩ := blk12 HB.out
            go_wp2_with (fail)
            refine (k4 _).mono ?_
            rintro e w6 ⟨rfl, hb6⟩
            have GA : Hid (w6.heap[w.heap.size]? = some (.cells #[.int .i64 A.i, .int .u32 (A.s : Int), .int .i64 A.sl, .int .u32 (A.d : Int), .int .i64 A.dl, .int .u16 (A.p.1 : Int), .int .u16 (A.p.2 : Int), .int .u16 (A.q.1 : Int), .int .u16 (A.q.2 : Int), .int .u8 (A.m.1 : Int), .int .u8 (A.m.2 : Int), .int .i64 A.act] 32)) := blk_on HA.out hb6
            have GB : Hid (w6.heap[w.heap.size + 1]? = some (.cells #[.int .i64 B.i, .int .u32 (B.s : Int), .int .i64 B.sl, .int .u32 (B.d : Int), .int .i64 B.dl, .int .u16 (B.p.1 : Int), .int .u16 (B.p.2 : Int), .int .u16 (B.q.1 : Int), .int .u16 (B.q.2 : Int), .int .u8 (B.m.1 : Int), .int .u8 (B.m.2 : Int), .int .i64 B.act] 32)) := blk_on HB.out hb6
            have hbl6 : Hid (Below w.heap.size w w6) := bel_step hbl5.out (bel_a0 _) hb6
            clear HA HB A_0 A_1 A_2 A_3 A_4 A_5 A_6 A_7 A_8 A_9 A_10 A_11 B_0 B_1 B_2 B_3 B_4 B_5 B_6 B_7 B_8 B_9 B_10 B_11 lA nA lB nB hb6 hbl5
            have HA := GA
            clear GA
            have HB := GB
            clear GB
            have lA := blk_lt HA.out
            have nA : ¬ w.heap.size = w6.heap.size := by omega
            have lB := blk_lt HB.out
            have nB : ¬ w.heap.size + 1 = w6.heap.size := by omega
            cases u4
            · go_wp2_with (fail)
              go_ret
              exact ⟨ret_same (by simp), hbl6.out⟩
            · skip
              obtain ⟨A_0, A_1, A_2, A_3, A_4, A_5, A_6, A_7, A_8, A_9, A_10, A_11⟩ := blk12 HA.out
              obtain ⟨B_0, B_1, B_2, B_3, B_4, B_5, B_6, B_7, B_8, B_9, B_10, B_11⟩ := blk12 HB.out
              go_wp2_with (fail)
              refine (k5 _).mono ?_
              rintro e w7 ⟨rfl, hb7⟩
              have GA : Hid (w7.heap[w.heap.size]? = some (.cells #[.int .i64 A.i, .int .u32 (A.s : Int), .int .i64 A.sl, .int .u32 (A.d : Int), .int .i64 A.dl, .int .u16 (A.p.1 : Int), .int .u16 (A.p.2 : Int), .int .u16 (A.q.1 : Int), .int .u16 (A.q.2 : Int), .int .u8 (A.m.1 : Int), .int .u8 (A.m.2 : Int), .int .i64 A.act] 32)) := blk_on HA.out hb7
              have GB : Hid (w7.heap[w.heap.size + 1]? = some (.cells #[.int .i64 B.i, .int .u32 (B.s : Int), .int .i64 B.sl, .int .u32 (B.d : Int), .int .i64 B.dl, .int .u16 (B.p.1 : Int), .int .u16 (B.p.2 : Int), .int .u16 (B.q.1 : Int), .int .u16 (B.q.2 : Int), .int .u8 (B.m.1 : Int), .int .u8 (B.m.2 : Int), .int .i64 B.act] 32)) := blk_on HB.out hb7
              have hbl7 : Hid (Below w.heap.size w w7) := bel_step hbl6.out (bel_a0 _) hb7
              clear HA HB A_0 A_1 A_2 A_3 A_4 A_5 A_6 A_7 A_8 A_9 A_10 A_11 B_0 B_1 B_2 B_3 B_4 B_5 B_6 B_7 B_8 B_9 B_10 B_11 lA nA lB nB hb7 hbl6
              have HA := GA
              clear GA
              have HB := GB
              clear GB
              have lA := blk_lt HA.out
              have nA : ¬ w.heap.size = w7.heap.size := by omega
              have lB := blk_lt HB.out
              have nB : ¬ w.heap.size + 1 = w7.heap.size := by omega
              go_wp2_with (fail)
              go_ret
              exact ⟨ret_same (by simp), hbl7.out⟩
theorem meetH_no {A B : Ru} (h : bothR A B = false) : meetR A B = ⟨0, 0, 0, 0, 0⟩ := by unfold meetR; rw [h]; rfl
theorem bothR_no {A B : Ru} (h : okR A = false ∨ okR B = false) : bothR A B = false := by unfold bothR; rcases h with h | h <;> rw [h] <;> simp
set_option maxRecDepth 20000 in
set_option maxHeartbeats 4000000 in
theorem meetsC (A B : Ru) (w : World) (bA : BdR A) (bB : BdR B) :
    Calls Tryz.prog 18 #[.agg #[.int .i64 A.i, .int .u32 (A.s : Int), .int .i64 A.sl, .int .u32 (A.d : Int), .int .i64 A.dl, .int .u16 (A.p.1 : Int), .int .u16 (A.p.2 : Int), .int .u16 (A.q.1 : Int), .int .u16 (A.q.2 : Int), .int .u8 (A.m.1 : Int), .int .u8 (A.m.2 : Int), .int .i64 A.act], .agg #[.int .i64 B.i, .int .u32 (B.s : Int), .int .i64 B.sl, .int .u32 (B.d : Int), .int .i64 B.dl, .int .u16 (B.p.1 : Int), .int .u16 (B.p.2 : Int), .int .u16 (B.q.1 : Int), .int .u16 (B.q.2 : Int), .int .u8 (B.m.1 : Int), .int .u8 (B.m.2 : Int), .int .i64 B.act]] w fun e w' => e = .returned (.tuple #[.agg #[.int .u32 ((meetR A B).s : Int), .int .u32 ((meetR A B).d : Int), .int .u16 ((meetR A B).p : Int), .int .u16 ((meetR A B).q : Int), .int .u8 ((meetR A B).r : Int)], .bool (bothR A B)]) ∧ Below w.heap.size w w' := by
  have hA := fun W => boxC A W bA
  have hB := fun W => boxC B W bB
  cases ha : okR A
  · have hn := errs_no ha
    have hf := bothR_no (A := A) (B := B) (.inl ha)
    rw [meetH_no hf, hf]
    rw [boxA_no ha] at hA
    generalize (errs A).1 = c at *
    generalize (errs B).1 = d at *
    generalize boxA B = Y at *
    clear ha bA bB hf
    replace hA : ∀ W, Calls Tryz.prog 11 #[.agg #[.int .i64 A.i, .int .u32 (A.s : Int), .int .i64 A.sl, .int .u32 (A.d : Int), .int .i64 A.dl, .int .u16 (A.p.1 : Int), .int .u16 (A.p.2 : Int), .int .u16 (A.q.1 : Int), .int .u16 (A.q.2 : Int), .int .u8 (A.m.1 : Int), .int .u8 (A.m.2 : Int), .int .i64 A.act]] W fun e w' => e = .returned (.tuple #[.agg #[.int .u32 0, .int .u32 0, .int .u32 0, .int .u32 0, .int .u16 0, .int .u16 0, .int .u16 0, .int .u16 0, .int .u8 0, .int .u8 0], .int .i64 c]) ∧ Below W.heap.size W w' := hA
    go_enter Tryz.func18, Tryz.ntmps18
    go_wp2_with (fail)
    refine (hA _).mono ?_
    rintro e w1 ⟨rfl, hb1⟩
    have GA : Hid (w1.heap[w.heap.size]? = some (.cells #[.int .i64 A.i, .int .u32 (A.s : Int), .int .i64 A.sl, .int .u32 (A.d : Int), .int .i64 A.dl, .int .u16 (A.p.1 : Int), .int .u16 (A.p.2 : Int), .int .u16 (A.q.1 : Int), .int .u16 (A.q.2 : Int), .int .u8 (A.m.1 : Int), .int .u8 (A.m.2 : Int), .int .i64 A.act] 32)) := blk_on (blk_alloc (blk_alloc (blk_new w (.cells #[.int .i64 A.i, .int .u32 (A.s : Int), .int .i64 A.sl, .int .u32 (A.d : Int), .int .i64 A.dl, .int .u16 (A.p.1 : Int), .int .u16 (A.p.2 : Int), .int .u16 (A.q.1 : Int), .int .u16 (A.q.2 : Int), .int .u8 (A.m.1 : Int), .int .u8 (A.m.2 : Int), .int .i64 A.act] 32)) _) _) hb1
    have GB : Hid (w1.heap[w.heap.size + 1]? = some (.cells #[.int .i64 B.i, .int .u32 (B.s : Int), .int .i64 B.sl, .int .u32 (B.d : Int), .int .i64 B.dl, .int .u16 (B.p.1 : Int), .int .u16 (B.p.2 : Int), .int .u16 (B.q.1 : Int), .int .u16 (B.q.2 : Int), .int .u8 (B.m.1 : Int), .int .u8 (B.m.2 : Int), .int .i64 B.act] 32)) := blk_on (blk_alloc (by simpa using blk_new (w.alloc (.cells #[.int .i64 A.i, .int .u32 (A.s : Int), .int .i64 A.sl, .int .u32 (A.d : Int), .int .i64 A.dl, .int .u16 (A.p.1 : Int), .int .u16 (A.p.2 : Int), .int .u16 (A.q.1 : Int), .int .u16 (A.q.2 : Int), .int .u8 (A.m.1 : Int), .int .u8 (A.m.2 : Int), .int .i64 A.act] 32)) (.cells #[.int .i64 B.i, .int .u32 (B.s : Int), .int .i64 B.sl, .int .u32 (B.d : Int), .int .i64 B.dl, .int .u16 (B.p.1 : Int), .int .u16 (B.p.2 : Int), .int .u16 (B.q.1 : Int), .int .u16 (B.q.2 : Int), .int .u8 (B.m.1 : Int), .int .u8 (B.m.2 : Int), .int .i64 B.act] 32)) _) hb1
    have GZ : Hid (w1.heap[w.heap.size + 1 + 1]? = some (.cells #[.int .u32 0, .int .u32 0, .int .u16 0, .int .u16 0, .int .u8 0] 34)) := blk_on (by simpa using blk_new ((w.alloc (.cells #[.int .i64 A.i, .int .u32 (A.s : Int), .int .i64 A.sl, .int .u32 (A.d : Int), .int .i64 A.dl, .int .u16 (A.p.1 : Int), .int .u16 (A.p.2 : Int), .int .u16 (A.q.1 : Int), .int .u16 (A.q.2 : Int), .int .u8 (A.m.1 : Int), .int .u8 (A.m.2 : Int), .int .i64 A.act] 32)).alloc (.cells #[.int .i64 B.i, .int .u32 (B.s : Int), .int .i64 B.sl, .int .u32 (B.d : Int), .int .i64 B.dl, .int .u16 (B.p.1 : Int), .int .u16 (B.p.2 : Int), .int .u16 (B.q.1 : Int), .int .u16 (B.q.2 : Int), .int .u8 (B.m.1 : Int), .int .u8 (B.m.2 : Int), .int .i64 B.act] 32)) (.cells #[.int .u32 0, .int .u32 0, .int .u16 0, .int .u16 0, .int .u8 0] 34)) hb1
    have hbl1 : Hid (Below w.heap.size w w1) := bel_step (Below.refl _ _) (bel_a3 _ _ _ _) hb1
    clear hb1
    have HA := GA
    clear GA
    have HB := GB
    clear GB
    have HZ := GZ
    clear GZ
    have lA := blk_lt HA.out
    have nA : ¬ w.heap.size = w1.heap.size := by omega
    have lB := blk_lt HB.out
    have nB : ¬ w.heap.size + 1 = w1.heap.size := by omega
    have lZ := blk_lt HZ.out
    have nZ : ¬ w.heap.size + 1 + 1 = w1.heap.size := by omega
    obtain ⟨B_0, B_1, B_2, B_3, B_4, B_5, B_6, B_7, B_8, B_9, B_10, B_11⟩ := blk12 HB.out
    go_wp2_with (fail)
    refine (hB _).mono ?_
    rintro e w2 ⟨rfl, hb2⟩
    have GA : Hid (w2.heap[w.heap.size]? = some (.cells #[.int .i64 A.i, .int .u32 (A.s : Int), .int .i64 A.sl, .int .u32 (A.d : Int), .int .i64 A.dl, .int .u16 (A.p.1 : Int), .int .u16 (A.p.2 : Int), .int .u16 (A.q.1 : Int), .int .u16 (A.q.2 : Int), .int .u8 (A.m.1 : Int), .int .u8 (A.m.2 : Int), .int .i64 A.act] 32)) := blk_on (blk_alloc HA.out _) hb2
    have GB : Hid (w2.heap[w.heap.size + 1]? = some (.cells #[.int .i64 B.i, .int .u32 (B.s : Int), .int .i64 B.sl, .int .u32 (B.d : Int), .int .i64 B.dl, .int .u16 (B.p.1 : Int), .int .u16 (B.p.2 : Int), .int .u16 (B.q.1 : Int), .int .u16 (B.q.2 : Int), .int .u8 (B.m.1 : Int), .int .u8 (B.m.2 : Int), .int .i64 B.act] 32)) := blk_on (blk_alloc HB.out _) hb2
    have GZ : Hid (w2.heap[w.heap.size + 1 + 1]? = some (.cells #[.int .u32 0, .int .u32 0, .int .u16 0, .int .u16 0, .int .u8 0] 34)) := blk_on (blk_alloc HZ.out _) hb2
    have GX : Hid (w2.heap[w1.heap.size]? = some (.cells #[.int .u32 0, .int .u32 0, .int .u32 0, .int .u32 0, .int .u16 0, .int .u16 0, .int .u16 0, .int .u16 0, .int .u8 0, .int .u8 0] 41)) := blk_on (blk_new w1 (.cells #[.int .u32 0, .int .u32 0, .int .u32 0, .int .u32 0, .int .u16 0, .int .u16 0, .int .u16 0, .int .u16 0, .int .u8 0, .int .u8 0] 41)) hb2
    have hbl2 : Hid (Below w.heap.size w w2) := bel_step hbl1.out (bel_a1 _ _) hb2
    clear HA HB HZ B_0 B_1 B_2 B_3 B_4 B_5 B_6 B_7 B_8 B_9 B_10 B_11 lA nA lB nB lZ nZ hb2 hbl1
    have HA := GA
    clear GA
    have HB := GB
    clear GB
    have HZ := GZ
    clear GZ
    have HX := GX
    clear GX
    have lA := blk_lt HA.out
    have nA : ¬ w.heap.size = w2.heap.size := by omega
    have lB := blk_lt HB.out
    have nB : ¬ w.heap.size + 1 = w2.heap.size := by omega
    have lZ := blk_lt HZ.out
    have nZ : ¬ w.heap.size + 1 + 1 = w2.heap.size := by omega
    have lX := blk_lt HX.out
    have nX : ¬ w1.heap.size = w2.heap.size := by omega
    have hZZ : ((w2.alloc (.cells #[.int .u32 (Y.a.1 : Int), .int .u32 (Y.a.2 : Int), .int .u32 (Y.b.1 : Int), .int .u32 (Y.b.2 : Int), .int .u16 (Y.c.1 : Int), .int .u16 (Y.c.2 : Int), .int .u16 (Y.d.1 : Int), .int .u16 (Y.d.2 : Int), .int .u8 (Y.m.1 : Int), .int .u8 (Y.m.2 : Int)] 41))).heap[w.heap.size + 1 + 1]? = some (.cells #[.int .u32 0, .int .u32 0, .int .u16 0, .int .u16 0, .int .u8 0] 34) := (blk_alloc HZ.out _)
    go_wp2_with (refine wpList_store_blk rfl 34 (.tmp 4) (.tmp 30) rfl (w.heap.size + 1 + 1) 0 #[.int .u32 0, .int .u32 0, .int .u16 0, .int .u16 0, .int .u8 0] #[.int .u32 0, .int .u32 0, .int .u16 0, .int .u16 0, .int .u8 0] rfl rfl 34 _ hZZ (Nat.le_of_ble_eq_true rfl) rfl (by kernel_rfl) rfl ?_; intro w8 hw8 how8)
    have hbl9 : Below w.heap.size w w8 := (bel_step hbl2.out (bel_a1 _ _) (Below.refl _ _)).trans (how8.below (by omega))
    exact bodyPost_ret (results_blk2 Tryz.results18 rfl hw8 Tryz.underlying34 rfl (by kernel_rfl)) rfl ⟨rfl, hbl9⟩
  · rw [errs_ok ha, boxA_in ha] at hA
    cases hb : okR B
    · have hn := errs_no hb
      have hf := bothR_no (A := A) (B := B) (.inr hb)
      rw [meetH_no hf, hf]
      rw [boxA_no hb] at hB
      generalize (errs B).1 = d at *
      generalize boxR A = X at *
      clear ha hb bA bB hf
      replace hB : ∀ W, Calls Tryz.prog 11 #[.agg #[.int .i64 B.i, .int .u32 (B.s : Int), .int .i64 B.sl, .int .u32 (B.d : Int), .int .i64 B.dl, .int .u16 (B.p.1 : Int), .int .u16 (B.p.2 : Int), .int .u16 (B.q.1 : Int), .int .u16 (B.q.2 : Int), .int .u8 (B.m.1 : Int), .int .u8 (B.m.2 : Int), .int .i64 B.act]] W fun e w' => e = .returned (.tuple #[.agg #[.int .u32 0, .int .u32 0, .int .u32 0, .int .u32 0, .int .u16 0, .int .u16 0, .int .u16 0, .int .u16 0, .int .u8 0, .int .u8 0], .int .i64 d]) ∧ Below W.heap.size W w' := hB
      go_enter Tryz.func18, Tryz.ntmps18
      go_wp2_with (fail)
      refine (hA _).mono ?_
      rintro e w1 ⟨rfl, hb1⟩
      have GA : Hid (w1.heap[w.heap.size]? = some (.cells #[.int .i64 A.i, .int .u32 (A.s : Int), .int .i64 A.sl, .int .u32 (A.d : Int), .int .i64 A.dl, .int .u16 (A.p.1 : Int), .int .u16 (A.p.2 : Int), .int .u16 (A.q.1 : Int), .int .u16 (A.q.2 : Int), .int .u8 (A.m.1 : Int), .int .u8 (A.m.2 : Int), .int .i64 A.act] 32)) := blk_on (blk_alloc (blk_alloc (blk_new w (.cells #[.int .i64 A.i, .int .u32 (A.s : Int), .int .i64 A.sl, .int .u32 (A.d : Int), .int .i64 A.dl, .int .u16 (A.p.1 : Int), .int .u16 (A.p.2 : Int), .int .u16 (A.q.1 : Int), .int .u16 (A.q.2 : Int), .int .u8 (A.m.1 : Int), .int .u8 (A.m.2 : Int), .int .i64 A.act] 32)) _) _) hb1
      have GB : Hid (w1.heap[w.heap.size + 1]? = some (.cells #[.int .i64 B.i, .int .u32 (B.s : Int), .int .i64 B.sl, .int .u32 (B.d : Int), .int .i64 B.dl, .int .u16 (B.p.1 : Int), .int .u16 (B.p.2 : Int), .int .u16 (B.q.1 : Int), .int .u16 (B.q.2 : Int), .int .u8 (B.m.1 : Int), .int .u8 (B.m.2 : Int), .int .i64 B.act] 32)) := blk_on (blk_alloc (by simpa using blk_new (w.alloc (.cells #[.int .i64 A.i, .int .u32 (A.s : Int), .int .i64 A.sl, .int .u32 (A.d : Int), .int .i64 A.dl, .int .u16 (A.p.1 : Int), .int .u16 (A.p.2 : Int), .int .u16 (A.q.1 : Int), .int .u16 (A.q.2 : Int), .int .u8 (A.m.1 : Int), .int .u8 (A.m.2 : Int), .int .i64 A.act] 32)) (.cells #[.int .i64 B.i, .int .u32 (B.s : Int), .int .i64 B.sl, .int .u32 (B.d : Int), .int .i64 B.dl, .int .u16 (B.p.1 : Int), .int .u16 (B.p.2 : Int), .int .u16 (B.q.1 : Int), .int .u16 (B.q.2 : Int), .int .u8 (B.m.1 : Int), .int .u8 (B.m.2 : Int), .int .i64 B.act] 32)) _) hb1
      have GZ : Hid (w1.heap[w.heap.size + 1 + 1]? = some (.cells #[.int .u32 0, .int .u32 0, .int .u16 0, .int .u16 0, .int .u8 0] 34)) := blk_on (by simpa using blk_new ((w.alloc (.cells #[.int .i64 A.i, .int .u32 (A.s : Int), .int .i64 A.sl, .int .u32 (A.d : Int), .int .i64 A.dl, .int .u16 (A.p.1 : Int), .int .u16 (A.p.2 : Int), .int .u16 (A.q.1 : Int), .int .u16 (A.q.2 : Int), .int .u8 (A.m.1 : Int), .int .u8 (A.m.2 : Int), .int .i64 A.act] 32)).alloc (.cells #[.int .i64 B.i, .int .u32 (B.s : Int), .int .i64 B.sl, .int .u32 (B.d : Int), .int .i64 B.dl, .int .u16 (B.p.1 : Int), .int .u16 (B.p.2 : Int), .int .u16 (B.q.1 : Int), .int .u16 (B.q.2 : Int), .int .u8 (B.m.1 : Int), .int .u8 (B.m.2 : Int), .int .i64 B.act] 32)) (.cells #[.int .u32 0, .int .u32 0, .int .u16 0, .int .u16 0, .int .u8 0] 34)) hb1
      have hbl1 : Hid (Below w.heap.size w w1) := bel_step (Below.refl _ _) (bel_a3 _ _ _ _) hb1
      clear hb1
      have HA := GA
      clear GA
      have HB := GB
      clear GB
      have HZ := GZ
      clear GZ
      have lA := blk_lt HA.out
      have nA : ¬ w.heap.size = w1.heap.size := by omega
      have lB := blk_lt HB.out
      have nB : ¬ w.heap.size + 1 = w1.heap.size := by omega
      have lZ := blk_lt HZ.out
      have nZ : ¬ w.heap.size + 1 + 1 = w1.heap.size := by omega
      obtain ⟨B_0, B_1, B_2, B_3, B_4, B_5, B_6, B_7, B_8, B_9, B_10, B_11⟩ := blk12 HB.out
      go_wp2_with (fail)
      refine (hB _).mono ?_
      rintro e w2 ⟨rfl, hb2⟩
      have GA : Hid (w2.heap[w.heap.size]? = some (.cells #[.int .i64 A.i, .int .u32 (A.s : Int), .int .i64 A.sl, .int .u32 (A.d : Int), .int .i64 A.dl, .int .u16 (A.p.1 : Int), .int .u16 (A.p.2 : Int), .int .u16 (A.q.1 : Int), .int .u16 (A.q.2 : Int), .int .u8 (A.m.1 : Int), .int .u8 (A.m.2 : Int), .int .i64 A.act] 32)) := blk_on (blk_alloc HA.out _) hb2
      have GB : Hid (w2.heap[w.heap.size + 1]? = some (.cells #[.int .i64 B.i, .int .u32 (B.s : Int), .int .i64 B.sl, .int .u32 (B.d : Int), .int .i64 B.dl, .int .u16 (B.p.1 : Int), .int .u16 (B.p.2 : Int), .int .u16 (B.q.1 : Int), .int .u16 (B.q.2 : Int), .int .u8 (B.m.1 : Int), .int .u8 (B.m.2 : Int), .int .i64 B.act] 32)) := blk_on (blk_alloc HB.out _) hb2
      have GZ : Hid (w2.heap[w.heap.size + 1 + 1]? = some (.cells #[.int .u32 0, .int .u32 0, .int .u16 0, .int .u16 0, .int .u8 0] 34)) := blk_on (blk_alloc HZ.out _) hb2
      have GX : Hid (w2.heap[w1.heap.size]? = some (.cells #[.int .u32 (X.a.1 : Int), .int .u32 (X.a.2 : Int), .int .u32 (X.b.1 : Int), .int .u32 (X.b.2 : Int), .int .u16 (X.c.1 : Int), .int .u16 (X.c.2 : Int), .int .u16 (X.d.1 : Int), .int .u16 (X.d.2 : Int), .int .u8 (X.m.1 : Int), .int .u8 (X.m.2 : Int)] 41)) := blk_on (blk_new w1 (.cells #[.int .u32 (X.a.1 : Int), .int .u32 (X.a.2 : Int), .int .u32 (X.b.1 : Int), .int .u32 (X.b.2 : Int), .int .u16 (X.c.1 : Int), .int .u16 (X.c.2 : Int), .int .u16 (X.d.1 : Int), .int .u16 (X.d.2 : Int), .int .u8 (X.m.1 : Int), .int .u8 (X.m.2 : Int)] 41)) hb2
      have hbl2 : Hid (Below w.heap.size w w2) := bel_step hbl1.out (bel_a1 _ _) hb2
      clear HA HB HZ B_0 B_1 B_2 B_3 B_4 B_5 B_6 B_7 B_8 B_9 B_10 B_11 lA nA lB nB lZ nZ hb2 hbl1
      have HA := GA
      clear GA
      have HB := GB
      clear GB
      have HZ := GZ
      clear GZ
      have HX := GX
      clear GX
      have lA := blk_lt HA.out
      have nA : ¬ w.heap.size = w2.heap.size := by omega
      have lB := blk_lt HB.out
      have nB : ¬ w.heap.size + 1 = w2.heap.size := by omega
      have lZ := blk_lt HZ.out
      have nZ : ¬ w.heap.size + 1 + 1 = w2.heap.size := by omega
      have lX := blk_lt HX.out
      have nX : ¬ w1.heap.size = w2.heap.size := by omega
      have hZZ : ((w2.alloc (.cells #[.int .u32 0, .int .u32 0, .int .u32 0, .int .u32 0, .int .u16 0, .int .u16 0, .int .u16 0, .int .u16 0, .int .u8 0, .int .u8 0] 41))).heap[w.heap.size + 1 + 1]? = some (.cells #[.int .u32 0, .int .u32 0, .int .u16 0, .int .u16 0, .int .u8 0] 34) := (blk_alloc HZ.out _)
      go_wp2_with (refine wpList_store_blk rfl 34 (.tmp 4) (.tmp 30) rfl (w.heap.size + 1 + 1) 0 #[.int .u32 0, .int .u32 0, .int .u16 0, .int .u16 0, .int .u8 0] #[.int .u32 0, .int .u32 0, .int .u16 0, .int .u16 0, .int .u8 0] rfl rfl 34 _ hZZ (Nat.le_of_ble_eq_true rfl) rfl (by kernel_rfl) rfl ?_; intro w8 hw8 how8)
      have hbl9 : Below w.heap.size w w8 := (bel_step hbl2.out (bel_a1 _ _) (Below.refl _ _)).trans (how8.below (by omega))
      exact bodyPost_ret (results_blk2 Tryz.results18 rfl hw8 Tryz.underlying34 rfl (by kernel_rfl)) rfl ⟨rfl, hbl9⟩
    · rw [errs_ok hb, boxA_in hb] at hB
      have xA := boxR_bd bA ha
      have xB := boxR_bd bB hb
      have hM := fun W => meetXC (boxR A) (boxR B) W xA xB
      cases hf : bothR A B
      · have hx : bothX (boxR A) (boxR B) = false := by unfold bothR at hf; rw [ha, hb] at hf; exact hf
        rw [meetH_no hf]
        rw [hx] at hM
        generalize meetX (boxR A) (boxR B) = M at *
        generalize boxR A = X at *
        generalize boxR B = Y at *
        clear ha hb hf hx bA bB xA xB
        go_enter Tryz.func18, Tryz.ntmps18
        go_wp2_with (fail)
        refine (hA _).mono ?_
        rintro e w1 ⟨rfl, hb1⟩
        have GA : Hid (w1.heap[w.heap.size]? = some (.cells #[.int .i64 A.i, .int .u32 (A.s : Int), .int .i64 A.sl, .int .u32 (A.d : Int), .int .i64 A.dl, .int .u16 (A.p.1 : Int), .int .u16 (A.p.2 : Int), .int .u16 (A.q.1 : Int), .int .u16 (A.q.2 : Int), .int .u8 (A.m.1 : Int), .int .u8 (A.m.2 : Int), .int .i64 A.act] 32)) := blk_on (blk_alloc (blk_alloc (blk_new w (.cells #[.int .i64 A.i, .int .u32 (A.s : Int), .int .i64 A.sl, .int .u32 (A.d : Int), .int .i64 A.dl, .int .u16 (A.p.1 : Int), .int .u16 (A.p.2 : Int), .int .u16 (A.q.1 : Int), .int .u16 (A.q.2 : Int), .int .u8 (A.m.1 : Int), .int .u8 (A.m.2 : Int), .int .i64 A.act] 32)) _) _) hb1
        have GB : Hid (w1.heap[w.heap.size + 1]? = some (.cells #[.int .i64 B.i, .int .u32 (B.s : Int), .int .i64 B.sl, .int .u32 (B.d : Int), .int .i64 B.dl, .int .u16 (B.p.1 : Int), .int .u16 (B.p.2 : Int), .int .u16 (B.q.1 : Int), .int .u16 (B.q.2 : Int), .int .u8 (B.m.1 : Int), .int .u8 (B.m.2 : Int), .int .i64 B.act] 32)) := blk_on (blk_alloc (by simpa using blk_new (w.alloc (.cells #[.int .i64 A.i, .int .u32 (A.s : Int), .int .i64 A.sl, .int .u32 (A.d : Int), .int .i64 A.dl, .int .u16 (A.p.1 : Int), .int .u16 (A.p.2 : Int), .int .u16 (A.q.1 : Int), .int .u16 (A.q.2 : Int), .int .u8 (A.m.1 : Int), .int .u8 (A.m.2 : Int), .int .i64 A.act] 32)) (.cells #[.int .i64 B.i, .int .u32 (B.s : Int), .int .i64 B.sl, .int .u32 (B.d : Int), .int .i64 B.dl, .int .u16 (B.p.1 : Int), .int .u16 (B.p.2 : Int), .int .u16 (B.q.1 : Int), .int .u16 (B.q.2 : Int), .int .u8 (B.m.1 : Int), .int .u8 (B.m.2 : Int), .int .i64 B.act] 32)) _) hb1
        have GZ : Hid (w1.heap[w.heap.size + 1 + 1]? = some (.cells #[.int .u32 0, .int .u32 0, .int .u16 0, .int .u16 0, .int .u8 0] 34)) := blk_on (by simpa using blk_new ((w.alloc (.cells #[.int .i64 A.i, .int .u32 (A.s : Int), .int .i64 A.sl, .int .u32 (A.d : Int), .int .i64 A.dl, .int .u16 (A.p.1 : Int), .int .u16 (A.p.2 : Int), .int .u16 (A.q.1 : Int), .int .u16 (A.q.2 : Int), .int .u8 (A.m.1 : Int), .int .u8 (A.m.2 : Int), .int .i64 A.act] 32)).alloc (.cells #[.int .i64 B.i, .int .u32 (B.s : Int), .int .i64 B.sl, .int .u32 (B.d : Int), .int .i64 B.dl, .int .u16 (B.p.1 : Int), .int .u16 (B.p.2 : Int), .int .u16 (B.q.1 : Int), .int .u16 (B.q.2 : Int), .int .u8 (B.m.1 : Int), .int .u8 (B.m.2 : Int), .int .i64 B.act] 32)) (.cells #[.int .u32 0, .int .u32 0, .int .u16 0, .int .u16 0, .int .u8 0] 34)) hb1
        have hbl1 : Hid (Below w.heap.size w w1) := bel_step (Below.refl _ _) (bel_a3 _ _ _ _) hb1
        clear hb1
        have HA := GA
        clear GA
        have HB := GB
        clear GB
        have HZ := GZ
        clear GZ
        have lA := blk_lt HA.out
        have nA : ¬ w.heap.size = w1.heap.size := by omega
        have lB := blk_lt HB.out
        have nB : ¬ w.heap.size + 1 = w1.heap.size := by omega
        have lZ := blk_lt HZ.out
        have nZ : ¬ w.heap.size + 1 + 1 = w1.heap.size := by omega
        obtain ⟨B_0, B_1, B_2, B_3, B_4, B_5, B_6, B_7, B_8, B_9, B_10, B_11⟩ := blk12 HB.out
        go_wp2_with (fail)
        refine (hB _).mono ?_
        rintro e w2 ⟨rfl, hb2⟩
        have GA : Hid (w2.heap[w.heap.size]? = some (.cells #[.int .i64 A.i, .int .u32 (A.s : Int), .int .i64 A.sl, .int .u32 (A.d : Int), .int .i64 A.dl, .int .u16 (A.p.1 : Int), .int .u16 (A.p.2 : Int), .int .u16 (A.q.1 : Int), .int .u16 (A.q.2 : Int), .int .u8 (A.m.1 : Int), .int .u8 (A.m.2 : Int), .int .i64 A.act] 32)) := blk_on (blk_alloc HA.out _) hb2
        have GB : Hid (w2.heap[w.heap.size + 1]? = some (.cells #[.int .i64 B.i, .int .u32 (B.s : Int), .int .i64 B.sl, .int .u32 (B.d : Int), .int .i64 B.dl, .int .u16 (B.p.1 : Int), .int .u16 (B.p.2 : Int), .int .u16 (B.q.1 : Int), .int .u16 (B.q.2 : Int), .int .u8 (B.m.1 : Int), .int .u8 (B.m.2 : Int), .int .i64 B.act] 32)) := blk_on (blk_alloc HB.out _) hb2
        have GZ : Hid (w2.heap[w.heap.size + 1 + 1]? = some (.cells #[.int .u32 0, .int .u32 0, .int .u16 0, .int .u16 0, .int .u8 0] 34)) := blk_on (blk_alloc HZ.out _) hb2
        have GX : Hid (w2.heap[w1.heap.size]? = some (.cells #[.int .u32 (X.a.1 : Int), .int .u32 (X.a.2 : Int), .int .u32 (X.b.1 : Int), .int .u32 (X.b.2 : Int), .int .u16 (X.c.1 : Int), .int .u16 (X.c.2 : Int), .int .u16 (X.d.1 : Int), .int .u16 (X.d.2 : Int), .int .u8 (X.m.1 : Int), .int .u8 (X.m.2 : Int)] 41)) := blk_on (blk_new w1 (.cells #[.int .u32 (X.a.1 : Int), .int .u32 (X.a.2 : Int), .int .u32 (X.b.1 : Int), .int .u32 (X.b.2 : Int), .int .u16 (X.c.1 : Int), .int .u16 (X.c.2 : Int), .int .u16 (X.d.1 : Int), .int .u16 (X.d.2 : Int), .int .u8 (X.m.1 : Int), .int .u8 (X.m.2 : Int)] 41)) hb2
        have hbl2 : Hid (Below w.heap.size w w2) := bel_step hbl1.out (bel_a1 _ _) hb2
        clear HA HB HZ B_0 B_1 B_2 B_3 B_4 B_5 B_6 B_7 B_8 B_9 B_10 B_11 lA nA lB nB lZ nZ hb2 hbl1
        have HA := GA
        clear GA
        have HB := GB
        clear GB
        have HZ := GZ
        clear GZ
        have HX := GX
        clear GX
        have lA := blk_lt HA.out
        have nA : ¬ w.heap.size = w2.heap.size := by omega
        have lB := blk_lt HB.out
        have nB : ¬ w.heap.size + 1 = w2.heap.size := by omega
        have lZ := blk_lt HZ.out
        have nZ : ¬ w.heap.size + 1 + 1 = w2.heap.size := by omega
        have lX := blk_lt HX.out
        have nX : ¬ w1.heap.size = w2.heap.size := by omega
        obtain ⟨X_0, X_1, X_2, X_3, X_4, X_5, X_6, X_7, X_8, X_9⟩ := blk10 HX.out
        go_wp2_with (fail)
        refine (hM _).mono ?_
        rintro e w3 ⟨rfl, hb3⟩
        have GA : Hid (w3.heap[w.heap.size]? = some (.cells #[.int .i64 A.i, .int .u32 (A.s : Int), .int .i64 A.sl, .int .u32 (A.d : Int), .int .i64 A.dl, .int .u16 (A.p.1 : Int), .int .u16 (A.p.2 : Int), .int .u16 (A.q.1 : Int), .int .u16 (A.q.2 : Int), .int .u8 (A.m.1 : Int), .int .u8 (A.m.2 : Int), .int .i64 A.act] 32)) := blk_on (blk_alloc HA.out _) hb3
        have GB : Hid (w3.heap[w.heap.size + 1]? = some (.cells #[.int .i64 B.i, .int .u32 (B.s : Int), .int .i64 B.sl, .int .u32 (B.d : Int), .int .i64 B.dl, .int .u16 (B.p.1 : Int), .int .u16 (B.p.2 : Int), .int .u16 (B.q.1 : Int), .int .u16 (B.q.2 : Int), .int .u8 (B.m.1 : Int), .int .u8 (B.m.2 : Int), .int .i64 B.act] 32)) := blk_on (blk_alloc HB.out _) hb3
        have GZ : Hid (w3.heap[w.heap.size + 1 + 1]? = some (.cells #[.int .u32 0, .int .u32 0, .int .u16 0, .int .u16 0, .int .u8 0] 34)) := blk_on (blk_alloc HZ.out _) hb3
        have GX : Hid (w3.heap[w1.heap.size]? = some (.cells #[.int .u32 (X.a.1 : Int), .int .u32 (X.a.2 : Int), .int .u32 (X.b.1 : Int), .int .u32 (X.b.2 : Int), .int .u16 (X.c.1 : Int), .int .u16 (X.c.2 : Int), .int .u16 (X.d.1 : Int), .int .u16 (X.d.2 : Int), .int .u8 (X.m.1 : Int), .int .u8 (X.m.2 : Int)] 41)) := blk_on (blk_alloc HX.out _) hb3
        have GY : Hid (w3.heap[w2.heap.size]? = some (.cells #[.int .u32 (Y.a.1 : Int), .int .u32 (Y.a.2 : Int), .int .u32 (Y.b.1 : Int), .int .u32 (Y.b.2 : Int), .int .u16 (Y.c.1 : Int), .int .u16 (Y.c.2 : Int), .int .u16 (Y.d.1 : Int), .int .u16 (Y.d.2 : Int), .int .u8 (Y.m.1 : Int), .int .u8 (Y.m.2 : Int)] 41)) := blk_on (blk_new w2 (.cells #[.int .u32 (Y.a.1 : Int), .int .u32 (Y.a.2 : Int), .int .u32 (Y.b.1 : Int), .int .u32 (Y.b.2 : Int), .int .u16 (Y.c.1 : Int), .int .u16 (Y.c.2 : Int), .int .u16 (Y.d.1 : Int), .int .u16 (Y.d.2 : Int), .int .u8 (Y.m.1 : Int), .int .u8 (Y.m.2 : Int)] 41)) hb3
        have hbl3 : Hid (Below w.heap.size w w3) := bel_step hbl2.out (bel_a1 _ _) hb3
        clear HA HB HZ HX X_0 X_1 X_2 X_3 X_4 X_5 X_6 X_7 X_8 X_9 lA nA lB nB lZ nZ lX nX hb3 hbl2
        have HA := GA
        clear GA
        have HB := GB
        clear GB
        have HZ := GZ
        clear GZ
        have HX := GX
        clear GX
        have HY := GY
        clear GY
        have lA := blk_lt HA.out
        have nA : ¬ w.heap.size = w3.heap.size := by omega
        have lB := blk_lt HB.out
        have nB : ¬ w.heap.size + 1 = w3.heap.size := by omega
        have lZ := blk_lt HZ.out
        have nZ : ¬ w.heap.size + 1 + 1 = w3.heap.size := by omega
        have lX := blk_lt HX.out
        have nX : ¬ w1.heap.size = w3.heap.size := by omega
        have lY := blk_lt HY.out
        have nY : ¬ w2.heap.size = w3.heap.size := by omega
        have hZZ : ((w3.alloc (.cells #[.int .u32 (M.a.1 : Int), .int .u32 (M.a.2 : Int), .int .u32 (M.b.1 : Int), .int .u32 (M.b.2 : Int), .int .u16 (M.c.1 : Int), .int .u16 (M.c.2 : Int), .int .u16 (M.d.1 : Int), .int .u16 (M.d.2 : Int), .int .u8 (M.m.1 : Int), .int .u8 (M.m.2 : Int)] 41))).heap[w.heap.size + 1 + 1]? = some (.cells #[.int .u32 0, .int .u32 0, .int .u16 0, .int .u16 0, .int .u8 0] 34) := (blk_alloc HZ.out _)
        go_wp2_with (refine wpList_store_blk rfl 34 (.tmp 4) (.tmp 39) rfl (w.heap.size + 1 + 1) 0 #[.int .u32 0, .int .u32 0, .int .u16 0, .int .u16 0, .int .u8 0] #[.int .u32 0, .int .u32 0, .int .u16 0, .int .u16 0, .int .u8 0] rfl rfl 34 _ hZZ (Nat.le_of_ble_eq_true rfl) rfl (by kernel_rfl) rfl ?_; intro w8 hw8 how8)
        have hbl9 : Below w.heap.size w w8 := (bel_step hbl3.out (bel_a1 _ _) (Below.refl _ _)).trans (how8.below (by omega))
        exact bodyPost_ret (results_blk2 Tryz.results18 rfl hw8 Tryz.underlying34 rfl (by kernel_rfl)) rfl ⟨rfl, hbl9⟩
      · have hx : bothX (boxR A) (boxR B) = true := by unfold bothR at hf; rw [ha, hb] at hf; exact hf
        have hok : okX (meetB (boxR A) (boxR B)) = true := by unfold bothX at hx; simp only [Bool.and_eq_true] at hx; exact hx.2
        rw [hx, show meetX (boxR A) (boxR B) = meetB (boxR A) (boxR B) by unfold meetX; rw [if_pos hx]] at hM
        have hF := fun W => firstC (meetB (boxR A) (boxR B)) W (meetB_bd xA xB)
        rw [chkX_ok.2 hok, show firstX (meetB (boxR A) (boxR B)) = leastX (meetB (boxR A) (boxR B)) by unfold firstX; rw [if_pos hok]] at hF
        rw [show meetR A B = leastX (meetB (boxR A) (boxR B)) by unfold meetR; rw [if_pos hf]]
        clear hf hx hok bA bB xA xB ha hb
        generalize leastX (meetB (boxR A) (boxR B)) = L at *
        generalize meetB (boxR A) (boxR B) = M at *
        generalize boxR A = X at *
        generalize boxR B = Y at *
        go_enter Tryz.func18, Tryz.ntmps18
        go_wp2_with (fail)
        refine (hA _).mono ?_
        rintro e w1 ⟨rfl, hb1⟩
        have GA : Hid (w1.heap[w.heap.size]? = some (.cells #[.int .i64 A.i, .int .u32 (A.s : Int), .int .i64 A.sl, .int .u32 (A.d : Int), .int .i64 A.dl, .int .u16 (A.p.1 : Int), .int .u16 (A.p.2 : Int), .int .u16 (A.q.1 : Int), .int .u16 (A.q.2 : Int), .int .u8 (A.m.1 : Int), .int .u8 (A.m.2 : Int), .int .i64 A.act] 32)) := blk_on (blk_alloc (blk_alloc (blk_new w (.cells #[.int .i64 A.i, .int .u32 (A.s : Int), .int .i64 A.sl, .int .u32 (A.d : Int), .int .i64 A.dl, .int .u16 (A.p.1 : Int), .int .u16 (A.p.2 : Int), .int .u16 (A.q.1 : Int), .int .u16 (A.q.2 : Int), .int .u8 (A.m.1 : Int), .int .u8 (A.m.2 : Int), .int .i64 A.act] 32)) _) _) hb1
        have GB : Hid (w1.heap[w.heap.size + 1]? = some (.cells #[.int .i64 B.i, .int .u32 (B.s : Int), .int .i64 B.sl, .int .u32 (B.d : Int), .int .i64 B.dl, .int .u16 (B.p.1 : Int), .int .u16 (B.p.2 : Int), .int .u16 (B.q.1 : Int), .int .u16 (B.q.2 : Int), .int .u8 (B.m.1 : Int), .int .u8 (B.m.2 : Int), .int .i64 B.act] 32)) := blk_on (blk_alloc (by simpa using blk_new (w.alloc (.cells #[.int .i64 A.i, .int .u32 (A.s : Int), .int .i64 A.sl, .int .u32 (A.d : Int), .int .i64 A.dl, .int .u16 (A.p.1 : Int), .int .u16 (A.p.2 : Int), .int .u16 (A.q.1 : Int), .int .u16 (A.q.2 : Int), .int .u8 (A.m.1 : Int), .int .u8 (A.m.2 : Int), .int .i64 A.act] 32)) (.cells #[.int .i64 B.i, .int .u32 (B.s : Int), .int .i64 B.sl, .int .u32 (B.d : Int), .int .i64 B.dl, .int .u16 (B.p.1 : Int), .int .u16 (B.p.2 : Int), .int .u16 (B.q.1 : Int), .int .u16 (B.q.2 : Int), .int .u8 (B.m.1 : Int), .int .u8 (B.m.2 : Int), .int .i64 B.act] 32)) _) hb1
        have GZ : Hid (w1.heap[w.heap.size + 1 + 1]? = some (.cells #[.int .u32 0, .int .u32 0, .int .u16 0, .int .u16 0, .int .u8 0] 34)) := blk_on (by simpa using blk_new ((w.alloc (.cells #[.int .i64 A.i, .int .u32 (A.s : Int), .int .i64 A.sl, .int .u32 (A.d : Int), .int .i64 A.dl, .int .u16 (A.p.1 : Int), .int .u16 (A.p.2 : Int), .int .u16 (A.q.1 : Int), .int .u16 (A.q.2 : Int), .int .u8 (A.m.1 : Int), .int .u8 (A.m.2 : Int), .int .i64 A.act] 32)).alloc (.cells #[.int .i64 B.i, .int .u32 (B.s : Int), .int .i64 B.sl, .int .u32 (B.d : Int), .int .i64 B.dl, .int .u16 (B.p.1 : Int), .int .u16 (B.p.2 : Int), .int .u16 (B.q.1 : Int), .int .u16 (B.q.2 : Int), .int .u8 (B.m.1 : Int), .int .u8 (B.m.2 : Int), .int .i64 B.act] 32)) (.cells #[.int .u32 0, .int .u32 0, .int .u16 0, .int .u16 0, .int .u8 0] 34)) hb1
        have hbl1 : Hid (Below w.heap.size w w1) := bel_step (Below.refl _ _) (bel_a3 _ _ _ _) hb1
        clear hb1
        have HA := GA
        clear GA
        have HB := GB
        clear GB
        have HZ := GZ
        clear GZ
        have lA := blk_lt HA.out
        have nA : ¬ w.heap.size = w1.heap.size := by omega
        have lB := blk_lt HB.out
        have nB : ¬ w.heap.size + 1 = w1.heap.size := by omega
        have lZ := blk_lt HZ.out
        have nZ : ¬ w.heap.size + 1 + 1 = w1.heap.size := by omega
        obtain ⟨B_0, B_1, B_2, B_3, B_4, B_5, B_6, B_7, B_8, B_9, B_10, B_11⟩ := blk12 HB.out
        go_wp2_with (fail)
        refine (hB _).mono ?_
        rintro e w2 ⟨rfl, hb2⟩
        have GA : Hid (w2.heap[w.heap.size]? = some (.cells #[.int .i64 A.i, .int .u32 (A.s : Int), .int .i64 A.sl, .int .u32 (A.d : Int), .int .i64 A.dl, .int .u16 (A.p.1 : Int), .int .u16 (A.p.2 : Int), .int .u16 (A.q.1 : Int), .int .u16 (A.q.2 : Int), .int .u8 (A.m.1 : Int), .int .u8 (A.m.2 : Int), .int .i64 A.act] 32)) := blk_on (blk_alloc HA.out _) hb2
        have GB : Hid (w2.heap[w.heap.size + 1]? = some (.cells #[.int .i64 B.i, .int .u32 (B.s : Int), .int .i64 B.sl, .int .u32 (B.d : Int), .int .i64 B.dl, .int .u16 (B.p.1 : Int), .int .u16 (B.p.2 : Int), .int .u16 (B.q.1 : Int), .int .u16 (B.q.2 : Int), .int .u8 (B.m.1 : Int), .int .u8 (B.m.2 : Int), .int .i64 B.act] 32)) := blk_on (blk_alloc HB.out _) hb2
        have GZ : Hid (w2.heap[w.heap.size + 1 + 1]? = some (.cells #[.int .u32 0, .int .u32 0, .int .u16 0, .int .u16 0, .int .u8 0] 34)) := blk_on (blk_alloc HZ.out _) hb2
        have GX : Hid (w2.heap[w1.heap.size]? = some (.cells #[.int .u32 (X.a.1 : Int), .int .u32 (X.a.2 : Int), .int .u32 (X.b.1 : Int), .int .u32 (X.b.2 : Int), .int .u16 (X.c.1 : Int), .int .u16 (X.c.2 : Int), .int .u16 (X.d.1 : Int), .int .u16 (X.d.2 : Int), .int .u8 (X.m.1 : Int), .int .u8 (X.m.2 : Int)] 41)) := blk_on (blk_new w1 (.cells #[.int .u32 (X.a.1 : Int), .int .u32 (X.a.2 : Int), .int .u32 (X.b.1 : Int), .int .u32 (X.b.2 : Int), .int .u16 (X.c.1 : Int), .int .u16 (X.c.2 : Int), .int .u16 (X.d.1 : Int), .int .u16 (X.d.2 : Int), .int .u8 (X.m.1 : Int), .int .u8 (X.m.2 : Int)] 41)) hb2
        have hbl2 : Hid (Below w.heap.size w w2) := bel_step hbl1.out (bel_a1 _ _) hb2
        clear HA HB HZ B_0 B_1 B_2 B_3 B_4 B_5 B_6 B_7 B_8 B_9 B_10 B_11 lA nA lB nB lZ nZ hb2 hbl1
        have HA := GA
        clear GA
        have HB := GB
        clear GB
        have HZ := GZ
        clear GZ
        have HX := GX
        clear GX
        have lA := blk_lt HA.out
        have nA : ¬ w.heap.size = w2.heap.size := by omega
        have lB := blk_lt HB.out
        have nB : ¬ w.heap.size + 1 = w2.heap.size := by omega
        have lZ := blk_lt HZ.out
        have nZ : ¬ w.heap.size + 1 + 1 = w2.heap.size := by omega
        have lX := blk_lt HX.out
        have nX : ¬ w1.heap.size = w2.heap.size := by omega
        obtain ⟨X_0, X_1, X_2, X_3, X_4, X_5, X_6, X_7, X_8, X_9⟩ := blk10 HX.out
        go_wp2_with (fail)
        refine (hM _).mono ?_
        rintro e w3 ⟨rfl, hb3⟩
        have GA : Hid (w3.heap[w.heap.size]? = some (.cells #[.int .i64 A.i, .int .u32 (A.s : Int), .int .i64 A.sl, .int .u32 (A.d : Int), .int .i64 A.dl, .int .u16 (A.p.1 : Int), .int .u16 (A.p.2 : Int), .int .u16 (A.q.1 : Int), .int .u16 (A.q.2 : Int), .int .u8 (A.m.1 : Int), .int .u8 (A.m.2 : Int), .int .i64 A.act] 32)) := blk_on (blk_alloc HA.out _) hb3
        have GB : Hid (w3.heap[w.heap.size + 1]? = some (.cells #[.int .i64 B.i, .int .u32 (B.s : Int), .int .i64 B.sl, .int .u32 (B.d : Int), .int .i64 B.dl, .int .u16 (B.p.1 : Int), .int .u16 (B.p.2 : Int), .int .u16 (B.q.1 : Int), .int .u16 (B.q.2 : Int), .int .u8 (B.m.1 : Int), .int .u8 (B.m.2 : Int), .int .i64 B.act] 32)) := blk_on (blk_alloc HB.out _) hb3
        have GZ : Hid (w3.heap[w.heap.size + 1 + 1]? = some (.cells #[.int .u32 0, .int .u32 0, .int .u16 0, .int .u16 0, .int .u8 0] 34)) := blk_on (blk_alloc HZ.out _) hb3
        have GX : Hid (w3.heap[w1.heap.size]? = some (.cells #[.int .u32 (X.a.1 : Int), .int .u32 (X.a.2 : Int), .int .u32 (X.b.1 : Int), .int .u32 (X.b.2 : Int), .int .u16 (X.c.1 : Int), .int .u16 (X.c.2 : Int), .int .u16 (X.d.1 : Int), .int .u16 (X.d.2 : Int), .int .u8 (X.m.1 : Int), .int .u8 (X.m.2 : Int)] 41)) := blk_on (blk_alloc HX.out _) hb3
        have GY : Hid (w3.heap[w2.heap.size]? = some (.cells #[.int .u32 (Y.a.1 : Int), .int .u32 (Y.a.2 : Int), .int .u32 (Y.b.1 : Int), .int .u32 (Y.b.2 : Int), .int .u16 (Y.c.1 : Int), .int .u16 (Y.c.2 : Int), .int .u16 (Y.d.1 : Int), .int .u16 (Y.d.2 : Int), .int .u8 (Y.m.1 : Int), .int .u8 (Y.m.2 : Int)] 41)) := blk_on (blk_new w2 (.cells #[.int .u32 (Y.a.1 : Int), .int .u32 (Y.a.2 : Int), .int .u32 (Y.b.1 : Int), .int .u32 (Y.b.2 : Int), .int .u16 (Y.c.1 : Int), .int .u16 (Y.c.2 : Int), .int .u16 (Y.d.1 : Int), .int .u16 (Y.d.2 : Int), .int .u8 (Y.m.1 : Int), .int .u8 (Y.m.2 : Int)] 41)) hb3
        have hbl3 : Hid (Below w.heap.size w w3) := bel_step hbl2.out (bel_a1 _ _) hb3
        clear HA HB HZ HX X_0 X_1 X_2 X_3 X_4 X_5 X_6 X_7 X_8 X_9 lA nA lB nB lZ nZ lX nX hb3 hbl2
        have HA := GA
        clear GA
        have HB := GB
        clear GB
        have HZ := GZ
        clear GZ
        have HX := GX
        clear GX
        have HY := GY
        clear GY
        have lA := blk_lt HA.out
        have nA : ¬ w.heap.size = w3.heap.size := by omega
        have lB := blk_lt HB.out
        have nB : ¬ w.heap.size + 1 = w3.heap.size := by omega
        have lZ := blk_lt HZ.out
        have nZ : ¬ w.heap.size + 1 + 1 = w3.heap.size := by omega
        have lX := blk_lt HX.out
        have nX : ¬ w1.heap.size = w3.heap.size := by omega
        have lY := blk_lt HY.out
        have nY : ¬ w2.heap.size = w3.heap.size := by omega
        go_wp2_with (fail)
        refine (hF _).mono ?_
        rintro e w4 ⟨rfl, hb4⟩
        have GA : Hid (w4.heap[w.heap.size]? = some (.cells #[.int .i64 A.i, .int .u32 (A.s : Int), .int .i64 A.sl, .int .u32 (A.d : Int), .int .i64 A.dl, .int .u16 (A.p.1 : Int), .int .u16 (A.p.2 : Int), .int .u16 (A.q.1 : Int), .int .u16 (A.q.2 : Int), .int .u8 (A.m.1 : Int), .int .u8 (A.m.2 : Int), .int .i64 A.act] 32)) := blk_on (blk_alloc HA.out _) hb4
        have GB : Hid (w4.heap[w.heap.size + 1]? = some (.cells #[.int .i64 B.i, .int .u32 (B.s : Int), .int .i64 B.sl, .int .u32 (B.d : Int), .int .i64 B.dl, .int .u16 (B.p.1 : Int), .int .u16 (B.p.2 : Int), .int .u16 (B.q.1 : Int), .int .u16 (B.q.2 : Int), .int .u8 (B.m.1 : Int), .int .u8 (B.m.2 : Int), .int .i64 B.act] 32)) := blk_on (blk_alloc HB.out _) hb4
        have GZ : Hid (w4.heap[w.heap.size + 1 + 1]? = some (.cells #[.int .u32 0, .int .u32 0, .int .u16 0, .int .u16 0, .int .u8 0] 34)) := blk_on (blk_alloc HZ.out _) hb4
        have GX : Hid (w4.heap[w1.heap.size]? = some (.cells #[.int .u32 (X.a.1 : Int), .int .u32 (X.a.2 : Int), .int .u32 (X.b.1 : Int), .int .u32 (X.b.2 : Int), .int .u16 (X.c.1 : Int), .int .u16 (X.c.2 : Int), .int .u16 (X.d.1 : Int), .int .u16 (X.d.2 : Int), .int .u8 (X.m.1 : Int), .int .u8 (X.m.2 : Int)] 41)) := blk_on (blk_alloc HX.out _) hb4
        have GY : Hid (w4.heap[w2.heap.size]? = some (.cells #[.int .u32 (Y.a.1 : Int), .int .u32 (Y.a.2 : Int), .int .u32 (Y.b.1 : Int), .int .u32 (Y.b.2 : Int), .int .u16 (Y.c.1 : Int), .int .u16 (Y.c.2 : Int), .int .u16 (Y.d.1 : Int), .int .u16 (Y.d.2 : Int), .int .u8 (Y.m.1 : Int), .int .u8 (Y.m.2 : Int)] 41)) := blk_on (blk_alloc HY.out _) hb4
        have GM : Hid (w4.heap[w3.heap.size]? = some (.cells #[.int .u32 (M.a.1 : Int), .int .u32 (M.a.2 : Int), .int .u32 (M.b.1 : Int), .int .u32 (M.b.2 : Int), .int .u16 (M.c.1 : Int), .int .u16 (M.c.2 : Int), .int .u16 (M.d.1 : Int), .int .u16 (M.d.2 : Int), .int .u8 (M.m.1 : Int), .int .u8 (M.m.2 : Int)] 41)) := blk_on (blk_new w3 (.cells #[.int .u32 (M.a.1 : Int), .int .u32 (M.a.2 : Int), .int .u32 (M.b.1 : Int), .int .u32 (M.b.2 : Int), .int .u16 (M.c.1 : Int), .int .u16 (M.c.2 : Int), .int .u16 (M.d.1 : Int), .int .u16 (M.d.2 : Int), .int .u8 (M.m.1 : Int), .int .u8 (M.m.2 : Int)] 41)) hb4
        have hbl4 : Hid (Below w.heap.size w w4) := bel_step hbl3.out (bel_a1 _ _) hb4
        clear HA HB HZ HX HY lA nA lB nB lZ nZ lX nX lY nY hb4 hbl3
        have HA := GA
        clear GA
        have HB := GB
        clear GB
        have HZ := GZ
        clear GZ
        have HX := GX
        clear GX
        have HY := GY
        clear GY
        have HM := GM
        clear GM
        have lA := blk_lt HA.out
        have nA : ¬ w.heap.size = w4.heap.size := by omega
        have lB := blk_lt HB.out
        have nB : ¬ w.heap.size + 1 = w4.heap.size := by omega
        have lZ := blk_lt HZ.out
        have nZ : ¬ w.heap.size + 1 + 1 = w4.heap.size := by omega
        have lX := blk_lt HX.out
        have nX : ¬ w1.heap.size = w4.heap.size := by omega
        have lY := blk_lt HY.out
        have nY : ¬ w2.heap.size = w4.heap.size := by omega
        have lM := blk_lt HM.out
        have nM : ¬ w3.heap.size = w4.heap.size := by omega
        have hZZ : ((w4.alloc (.cells #[.int .u32 (L.s : Int), .int .u32 (L.d : Int), .int .u16 (L.p : Int), .int .u16 (L.q : Int), .int .u8 (L.r : Int)] 34))).heap[w.heap.size + 1 + 1]? = some (.cells #[.int .u32 0, .int .u32 0, .int .u16 0, .int .u16 0, .int .u8 0] 34) := (blk_alloc HZ.out _)
        go_wp2_with (refine wpList_store_blk rfl 34 (.tmp 4) (.tmp 45) rfl (w.heap.size + 1 + 1) 0 #[.int .u32 (L.s : Int), .int .u32 (L.d : Int), .int .u16 (L.p : Int), .int .u16 (L.q : Int), .int .u8 (L.r : Int)] #[.int .u32 (L.s : Int), .int .u32 (L.d : Int), .int .u16 (L.p : Int), .int .u16 (L.q : Int), .int .u8 (L.r : Int)] rfl rfl 34 _ hZZ (Nat.le_of_ble_eq_true rfl) rfl (by kernel_rfl) rfl ?_; intro w8 hw8 how8)
        have hbl9 : Below w.heap.size w w8 := (bel_step hbl4.out (bel_a1 _ _) (Below.refl _ _)).trans (how8.below (by omega))
        exact bodyPost_ret (results_blk2 Tryz.results18 rfl hw8 Tryz.underlying34 rfl (by kernel_rfl)) rfl ⟨rfl, hbl9⟩
set_option maxHeartbeats 1000000 in
theorem allRC (i a : Int) (w : World) :
    Calls Tryz.prog 22 #[.int .i64 i, .int .i64 a] w fun e w' => e = .returned (.agg #[.int .i64 (allR i a).i, .int .u32 ((allR i a).s : Int), .int .i64 (allR i a).sl, .int .u32 ((allR i a).d : Int), .int .i64 (allR i a).dl, .int .u16 ((allR i a).p.1 : Int), .int .u16 ((allR i a).p.2 : Int), .int .u16 ((allR i a).q.1 : Int), .int .u16 ((allR i a).q.2 : Int), .int .u8 ((allR i a).m.1 : Int), .int .u8 ((allR i a).m.2 : Int), .int .i64 (allR i a).act]) ∧ Below w.heap.size w w' := by
  go_enter Tryz.func22, Tryz.ntmps22
  go_wp2_with (fail)
  exact bodyPost_ret (v := .agg #[.int .i64 i, .int .u32 0, .int .i64 0, .int .u32 0, .int .i64 0, .int .u16 0, .int .u16 65535, .int .u16 0, .int .u16 65535, .int .u8 0, .int .u8 0, .int .i64 a]) (by simp [results, Tryz.results22, go_sem]) rfl ⟨rfl, by (repeat (first | assumption | exact Below.refl _ _ | refine Below.drew ?_ | refine bel_drewN ?_ _ | refine Below.setCell ?_ (by first | omega | (simp; done) | (simp; omega)) _ | refine Below.alloc ?_ (by first | omega | (simp; done) | (simp; omega)) _ | refine bel_of ?_ (by assumption)))⟩
end Go.Proofs.YtebljklpkoheaaaGreat
