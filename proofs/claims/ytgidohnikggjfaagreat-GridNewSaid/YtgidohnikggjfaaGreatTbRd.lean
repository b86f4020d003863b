/-
  mayBe, Match, All of package rule (as in RuD).
-/
import Derived.Test.YtgidohnikggjfaaGreatTbRc
import Derived.Test.YtgidohnikggjfaaGreatPxB
namespace Go.Proofs.YtgidohnikggjfaaGreat
open Go.RowKit
set_option linter.unusedVariables false
set_option linter.unusedSimpArgs false

theorem bel_step {w W V w1 : World} (h : Below w.heap.size w W) (hV : Below W.heap.size W V) (hb : Below V.heap.size V w1) : Below w.heap.size w w1 := h.trans ((hV.trans (hb.mono hV.size)).mono h.size)
theorem bel_a0 (W : World) : Below W.heap.size W W := Below.refl _ _
theorem bel_a1 (W : World) (o : Obj) : Below W.heap.size W (W.alloc o) := (Below.refl _ _).alloc (Nat.le_refl _) _
theorem bel_a2 (W : World) (o p : Obj) : Below W.heap.size W ((W.alloc o).alloc p) := (bel_a1 W o).alloc (bel_a1 W o).size _
theorem bel_a3 (W : World) (o p q : Obj) : Below W.heap.size W (((W.alloc o).alloc p).alloc q) := (bel_a2 W o p).alloc (bel_a2 W o p).size _
theorem bel_a4 (W : World) (o p q r : Obj) : Below W.heap.size W ((((W.alloc o).alloc p).alloc q).alloc r) := (bel_a3 W o p q).alloc (bel_a3 W o p q).size _

theorem mayBeC (R : Ru) (w : World) (b : BdR R) :
    Calls Tryz.prog 56 #[.agg #[.int .i64 R.i, .int .u32 (R.s : Int), .int .i64 R.sl, .int .u32 (R.d : Int), .int .i64 R.dl, .int .u16 (R.p.1 : Int), .int .u16 (R.p.2 : Int), .int .u16 (R.q.1 : Int), .int .u16 (R.q.2 : Int), .int .u8 (R.m.1 : Int), .int .u8 (R.m.2 : Int), .int .i64 R.act]] w fun e w' => e = .returned (.bool (okR R)) ∧ Below w.heap.size w w' := by
  have hC := fun W => checkRC R W b
  cases ho : okR R
  · have hn := errs_no ho
    have hn' : ((errs R).1 == 0) = false := by simpa using hn
    generalize (errs R).1 = c at *
    generalize (errs R).2 = d at *
    clear ho b
    go_enter Tryz.func56, Tryz.ntmps56
    go_wp2_with (fail)
    refine (hC _).mono ?_
    rintro e w1 ⟨rfl, hb1⟩
    have GR : Hid (w1.heap[w.heap.size]? = some (.cells #[.int .i64 R.i, .int .u32 (R.s : Int), .int .i64 R.sl, .int .u32 (R.d : Int), .int .i64 R.dl, .int .u16 (R.p.1 : Int), .int .u16 (R.p.2 : Int), .int .u16 (R.q.1 : Int), .int .u16 (R.q.2 : Int), .int .u8 (R.m.1 : Int), .int .u8 (R.m.2 : Int), .int .i64 R.act] 64)) := blk_on (blk_new w (.cells #[.int .i64 R.i, .int .u32 (R.s : Int), .int .i64 R.sl, .int .u32 (R.d : Int), .int .i64 R.dl, .int .u16 (R.p.1 : Int), .int .u16 (R.p.2 : Int), .int .u16 (R.q.1 : Int), .int .u16 (R.q.2 : Int), .int .u8 (R.m.1 : Int), .int .u8 (R.m.2 : Int), .int .i64 R.act] 64)) hb1
    have hbl1 : Hid (Below w.heap.size w w1) := bel_step (Below.refl _ _) (bel_a1 _ _) hb1
    clear hb1
    have HR := GR
    clear GR
    have lR := blk_lt HR.out
    have nR : ¬ w.heap.size = w1.heap.size := by omega
    go_wp2_with (fail)
    go_ret
    exact ⟨rfl, hbl1.out⟩
  · rw [errs_ok ho] at hC
    clear ho b
    go_enter Tryz.func56, Tryz.ntmps56
    go_wp2_with (fail)
    refine (hC _).mono ?_
    rintro e w1 ⟨rfl, hb1⟩
    have GR : Hid (w1.heap[w.heap.size]? = some (.cells #[.int .i64 R.i, .int .u32 (R.s : Int), .int .i64 R.sl, .int .u32 (R.d : Int), .int .i64 R.dl, .int .u16 (R.p.1 : Int), .int .u16 (R.p.2 : Int), .int .u16 (R.q.1 : Int), .int .u16 (R.q.2 : Int), .int .u8 (R.m.1 : Int), .int .u8 (R.m.2 : Int), .int .i64 R.act] 64)) := blk_on (blk_new w (.cells #[.int .i64 R.i, .int .u32 (R.s : Int), .int .i64 R.sl, .int .u32 (R.d : Int), .int .i64 R.dl, .int .u16 (R.p.1 : Int), .int .u16 (R.p.2 : Int), .int .u16 (R.q.1 : Int), .int .u16 (R.q.2 : Int), .int .u8 (R.m.1 : Int), .int .u8 (R.m.2 : Int), .int .i64 R.act] 64)) hb1
    have hbl1 : Hid (Below w.heap.size w w1) := bel_step (Below.refl _ _) (bel_a1 _ _) hb1
    clear hb1
    have HR := GR
    clear GR
    have lR := blk_lt HR.out
    have nR : ¬ w.heap.size = w1.heap.size := by omega
    go_wp2_with (fail)
    go_ret
    exact ⟨rfl, hbl1.out⟩
set_option maxRecDepth 20000 in
set_option maxHeartbeats 2000000 in
theorem matchC (R : Ru) (h : Hd) (w : World) (b : BdR R) (o : OkH h) :
    Calls Tryz.prog 39 #[.agg #[.int .i64 R.i, .int .u32 (R.s : Int), .int .i64 R.sl, .int .u32 (R.d : Int), .int .i64 R.dl, .int .u16 (R.p.1 : Int), .int .u16 (R.p.2 : Int), .int .u16 (R.q.1 : Int), .int .u16 (R.q.2 : Int), .int .u8 (R.m.1 : Int), .int .u8 (R.m.2 : Int), .int .i64 R.act], .agg #[.int .u32 (h.s : Int), .int .u32 (h.d : Int), .int .u16 (h.p : Int), .int .u16 (h.q : Int), .int .u8 (h.r : Int)]] w fun e w' => e = .returned (.bool (matchR R h)) ∧ Below w.heap.size w w' := by
  have hM := fun W => mayBeC R W b
  cases ho : okR R
  · rw [ho] at hM
    rw [match_no ho]
    clear ho b o
    go_enter Tryz.func39, Tryz.ntmps39
    go_wp2_with (fail)
    refine (hM _).mono ?_
    rintro e w1 ⟨rfl, hb1⟩
    have GR : Hid (w1.heap[w.heap.size]? = some (.cells #[.int .i64 R.i, .int .u32 (R.s : Int), .int .i64 R.sl, .int .u32 (R.d : Int), .int .i64 R.dl, .int .u16 (R.p.1 : Int), .int .u16 (R.p.2 : Int), .int .u16 (R.q.1 : Int), .int .u16 (R.q.2 : Int), .int .u8 (R.m.1 : Int), .int .u8 (R.m.2 : Int), .int .i64 R.act] 64)) := blk_on (blk_alloc (blk_new w (.cells #[.int .i64 R.i, .int .u32 (R.s : Int), .int .i64 R.sl, .int .u32 (R.d : Int), .int .i64 R.dl, .int .u16 (R.p.1 : Int), .int .u16 (R.p.2 : Int), .int .u16 (R.q.1 : Int), .int .u16 (R.q.2 : Int), .int .u8 (R.m.1 : Int), .int .u8 (R.m.2 : Int), .int .i64 R.act] 64)) _) hb1
    have Gh : Hid (w1.heap[w.heap.size + 1]? = some (.cells #[.int .u32 (h.s : Int), .int .u32 (h.d : Int), .int .u16 (h.p : Int), .int .u16 (h.q : Int), .int .u8 (h.r : Int)] 28)) := blk_on (by simpa using blk_new (w.alloc (.cells #[.int .i64 R.i, .int .u32 (R.s : Int), .int .i64 R.sl, .int .u32 (R.d : Int), .int .i64 R.dl, .int .u16 (R.p.1 : Int), .int .u16 (R.p.2 : Int), .int .u16 (R.q.1 : Int), .int .u16 (R.q.2 : Int), .int .u8 (R.m.1 : Int), .int .u8 (R.m.2 : Int), .int .i64 R.act] 64)) (.cells #[.int .u32 (h.s : Int), .int .u32 (h.d : Int), .int .u16 (h.p : Int), .int .u16 (h.q : Int), .int .u8 (h.r : Int)] 28)) hb1
    have hbl1 : Hid (Below w.heap.size w w1) := bel_step (Below.refl _ _) (bel_a2 _ _ _) hb1
    clear hb1
    have HR := GR
    clear GR
    have Hh := Gh
    clear Gh
    have lR := blk_lt HR.out
    have nR : ¬ w.heap.size = w1.heap.size := by omega
    have lh := blk_lt Hh.out
    have nh : ¬ w.heap.size + 1 = w1.heap.size := by omega
    go_wp2_with (fail)
    go_ret
    exact ⟨rfl, hbl1.out⟩
  · rw [ho] at hM
    rw [match_in ho]
    obtain ⟨b1, b2, b3, b4, b5, b6, b7, b8, _⟩ := b
    obtain ⟨o1, o2, o3, o4, o5⟩ := o
    have k1 := fun W => Pf.has_any R.s R.sl h.s W b1 o1
    have k2 := fun W => Pf.has_any R.d R.dl h.d W b2 o2
    have k3 := fun W => hasSp R.p h.p W
    have k4 := fun W => hasSp R.q h.q W
    have k5 := fun W => hasC R.m.1 R.m.2 h.r W o5 b8
    generalize Pf.hasB R.s R.sl h.s = u1 at *
    generalize Pf.hasB R.d R.dl h.d = u2 at *
    generalize hasI R.p h.p = u3 at *
    generalize hasI R.q h.q = u4 at *
    generalize hasM R.m.1 R.m.2 h.r = u5 at *
    clear ho b1 b2 b3 b4 b5 b6 b7 b8 o1 o2 o3 o4 o5
    go_enter Tryz.func39, Tryz.ntmps39
    go_wp2_with (fail)
    refine (hM _).mono ?_
    rintro e w1 ⟨rfl, hb1⟩
    have GR : Hid (w1.heap[w.heap.size]? = some (.cells #[.int .i64 R.i, .int .u32 (R.s : Int), .int .i64 R.sl, .int .u32 (R.d : Int), .int .i64 R.dl, .int .u16 (R.p.1 : Int), .int .u16 (R.p.2 : Int), .int .u16 (R.q.1 : Int), .int .u16 (R.q.2 : Int), .int .u8 (R.m.1 : Int), .int .u8 (R.m.2 : Int), .int .i64 R.act] 64)) := blk_on (blk_alloc (blk_new w (.cells #[.int .i64 R.i, .int .u32 (R.s : Int), .int .i64 R.sl, .int .u32 (R.d : Int), .int .i64 R.dl, .int .u16 (R.p.1 : Int), .int .u16 (R.p.2 : Int), .int .u16 (R.q.1 : Int), .int .u16 (R.q.2 : Int), .int .u8 (R.m.1 : Int), .int .u8 (R.m.2 : Int), .int .i64 R.act] 64)) _) hb1
    have Gh : Hid (w1.heap[w.heap.size + 1]? = some (.cells #[.int .u32 (h.s : Int), .int .u32 (h.d : Int), .int .u16 (h.p : Int), .int .u16 (h.q : Int), .int .u8 (h.r : Int)] 28)) := blk_on (by simpa using blk_new (w.alloc (.cells #[.int .i64 R.i, .int .u32 (R.s : Int), .int .i64 R.sl, .int .u32 (R.d : Int), .int .i64 R.dl, .int .u16 (R.p.1 : Int), .int .u16 (R.p.2 : Int), .int .u16 (R.q.1 : Int), .int .u16 (R.q.2 : Int), .int .u8 (R.m.1 : Int), .int .u8 (R.m.2 : Int), .int .i64 R.act] 64)) (.cells #[.int .u32 (h.s : Int), .int .u32 (h.d : Int), .int .u16 (h.p : Int), .int .u16 (h.q : Int), .int .u8 (h.r : Int)] 28)) hb1
    have hbl1 : Hid (Below w.heap.size w w1) := bel_step (Below.refl _ _) (bel_a2 _ _ _) hb1
    clear hb1
    have HR := GR
    clear GR
    have Hh := Gh
    clear Gh
    have lR := blk_lt HR.out
    have nR : ¬ w.heap.size = w1.heap.size := by omega
    have lh := blk_lt Hh.out
    have nh : ¬ w.heap.size + 1 = w1.heap.size := by omega
    obtain ⟨R_0, R_1, R_2, R_3, R_4, R_5, R_6, R_7, R_8, R_9, R_10, R_11⟩ := blk12 HR.out
    obtain ⟨h_0, h_1, h_2, h_3, h_4⟩ := blk5 Hh.out
    go_wp2_with (fail)
    refine (k1 _).mono ?_
    rintro e w2 ⟨rfl, hb2⟩
    have GR : Hid (w2.heap[w.heap.size]? = some (.cells #[.int .i64 R.i, .int .u32 (R.s : Int), .int .i64 R.sl, .int .u32 (R.d : Int), .int .i64 R.dl, .int .u16 (R.p.1 : Int), .int .u16 (R.p.2 : Int), .int .u16 (R.q.1 : Int), .int .u16 (R.q.2 : Int), .int .u8 (R.m.1 : Int), .int .u8 (R.m.2 : Int), .int .i64 R.act] 64)) := blk_on HR.out hb2
    have Gh : Hid (w2.heap[w.heap.size + 1]? = some (.cells #[.int .u32 (h.s : Int), .int .u32 (h.d : Int), .int .u16 (h.p : Int), .int .u16 (h.q : Int), .int .u8 (h.r : Int)] 28)) := blk_on Hh.out hb2
    have hbl2 : Hid (Below w.heap.size w w2) := bel_step hbl1.out (bel_a0 _) hb2
    clear HR Hh R_0 R_1 R_2 R_3 R_4 R_5 R_6 R_7 R_8 R_9 R_10 R_11 h_0 h_1 h_2 h_3 h_4 lR nR lh nh hb2 hbl1
    have HR := GR
    clear GR
    have Hh := Gh
    clear Gh
    have lR := blk_lt HR.out
    have nR : ¬ w.heap.size = w2.heap.size := by omega
    have lh := blk_lt Hh.out
    have nh : ¬ w.heap.size + 1 = w2.heap.size := by omega
    cases u1
    · go_wp2_with (fail)
      go_ret
      exact ⟨ret_same (by simp), hbl2.out⟩
    · skip
      obtain ⟨R_0, R_1, R_2, R_3, R_4, R_5, R_6, R_7, R_8, R_9, R_10, R_11⟩ := blk12 HR.out
      obtain ⟨h_0, h_1, h_2, h_3, h_4⟩ := blk5 Hh.out
      go_wp2_with (fail)
      refine (k2 _).mono ?_
      rintro e w3 ⟨rfl, hb3⟩
      have GR : Hid (w3.heap[w.heap.size]? = some (.cells #[.int .i64 R.i, .int .u32 (R.s : Int), .int .i64 R.sl, .int .u32 (R.d : Int), .int .i64 R.dl, .int .u16 (R.p.1 : Int), .int .u16 (R.p.2 : Int), .int .u16 (R.q.1 : Int), .int .u16 (R.q.2 : Int), .int .u8 (R.m.1 : Int), .int .u8 (R.m.2 : Int), .int .i64 R.act] 64)) := blk_on HR.out hb3
      have Gh : Hid (w3.heap[w.heap.size + 1]? = some (.cells #[.int .u32 (h.s : Int), .int .u32 (h.d : Int), .int .u16 (h.p : Int), .int .u16 (h.q : Int), .int .u8 (h.r : Int)] 28)) := blk_on Hh.out hb3
      have hbl3 : Hid (Below w.heap.size w w3) := bel_step hbl2.out (bel_a0 _) hb3
      clear HR Hh R_0 R_1 R_2 R_3 R_4 R_5 R_6 R_7 R_8 R_9 R_10 R_11 h_0 h_1 h_2 h_3 h_4 lR nR lh nh hb3 hbl2
      have HR := GR
      clear GR
      have Hh := Gh
      clear Gh
      have lR := blk_lt HR.out
      have nR : ¬ w.heap.size = w3.heap.size := by omega
      have lh := blk_lt Hh.out
      have nh : ¬ w.heap.size + 1 = w3.heap.size := by omega
      cases u2
      · go_wp2_with (fail)
        go_ret
        exact ⟨ret_same (by simp), hbl3.out⟩
      · skip
        obtain ⟨R_0, R_1, R_2, R_3, R_4, R_5, R_6, R_7, R_8, R_9, R_10, R_11⟩ := blk12 HR.out
        obtain ⟨h_0, h_1, h_2, h_3, h_4⟩ := blk5 Hh.out
        go_wp2_with (fail)
        refine (k3 _).mono ?_
        rintro e w4 ⟨rfl, hb4⟩
        have GR : Hid (w4.heap[w.heap.size]? = some (.cells #[.int .i64 R.i, .int .u32 (R.s : Int), .int .i64 R.sl, .int .u32 (R.d : Int), .int .i64 R.dl, .int .u16 (R.p.1 : Int), .int .u16 (R.p.2 : Int), .int .u16 (R.q.1 : Int), .int .u16 (R.q.2 : Int), .int .u8 (R.m.1 : Int), .int .u8 (R.m.2 : Int), .int .i64 R.act] 64)) := blk_on HR.out hb4
        have Gh : Hid (w4.heap[w.heap.size + 1]? = some (.cells #[.int .u32 (h.s : Int), .int .u32 (h.d : Int), .int .u16 (h.p : Int), .int .u16 (h.q : Int), .int .u8 (h.r : Int)] 28)) := blk_on Hh.out hb4
        have hbl4 : Hid (Below w.heap.size w w4) := bel_step hbl3.out (bel_a0 _) hb4
        clear HR Hh R_0 R_1 R_2 R_3 R_4 R_5 R_6 R_7 R_8 R_9 R_10 R_11 h_0 h_1 h_2 h_3 h_4 lR nR lh nh hb4 hbl3
        have HR := GR
        clear GR
        have Hh := Gh
        clear Gh
        have lR := blk_lt HR.out
        have nR : ¬ w.heap.size = w4.heap.size := by omega
        have lh := blk_lt Hh.out
        have nh : ¬ w.heap.size + 1 = w4.heap.size := by omega
        cases u3
        · go_wp2_with (fail)
          go_ret
          exact ⟨ret_same (by simp), hbl4.out⟩
        · skip
          obtain ⟨R_0, R_1, R_2, R_3, R_4, R_5, R_6, R_7, R_8, R_9, R_10, R_11⟩ := blk12 HR.out
          obtain ⟨h_0, h_1, h_2, h_3, h_4⟩ := blk5 Hh.out
          go_wp2_with (fail)
          refine (k4 _).mono ?_
          rintro e w5 ⟨rfl, hb5⟩
          have GR : Hid (w5.heap[w.heap.size]? = some (.cells #[.int .i64 R.i, .int .u32 (R.s : Int), .int .i64 R.sl, .int .u32 (R.d : Int), .int .i64 R.dl, .int .u16 (R.p.1 : Int), .int .u16 (R.p.2 : Int), .int .u16 (R.q.1 : Int), .int .u16 (R.q.2 : Int), .int .u8 (R.m.1 : Int), .int .u8 (R.m.2 : Int), .int .i64 R.act] 64)) := blk_on HR.out hb5
          have Gh : Hid (w5.heap[w.heap.size + 1]? = some (.cells #[.int .u32 (h.s : Int), .int .u32 (h.d : Int), .int .u16 (h.p : Int), .int .u16 (h.q : Int), .int .u8 (h.r : Int)] 28)) := blk_on Hh.out hb5
          have hbl5 : Hid (Below w.heap.size w w5) := bel_step hbl4.out (bel_a0 _) hb5
          clear HR Hh R_0 R_1 R_2 R_3 R_4 R_5 R_6 R_7 R_8 R_9 R_10 R_11 h_0 h_1 h_2 h_3 h_4 lR nR lh nh hb5 hbl4
          have HR := GR
          clear GR
          have Hh := Gh
          clear Gh
          have lR := blk_lt HR.out
          have nR : ¬ w.heap.size = w5.heap.size := by omega
          have lh := blk_lt Hh.out
          have nh : ¬ w.heap.size + 1 = w5.heap.size := by omega
          cases u4
          · go_wp2_with (fail)
            go_ret
            exact ⟨ret_same (by simp), hbl5.out⟩
          · skip
            obtain ⟨R_0, R_1, R_2, R_3, R_4, R_5, R_6, R_7, R_8, R_9, R_10, R_11⟩ := blk12 HR.out
            obtain ⟨h_0, h_1, h_2, h_3, h_4⟩ := blk5 Hh.out
            go_wp2_with (fail)
            refine (k5 _).mono ?_
            rintro e w6 ⟨rfl, hb6⟩
            have GR : Hid (w6.heap[w.heap.size]? = some (.cells #[.int .i64 R.i, .int .u32 (R.s : Int), .int .i64 R.sl, .int .u32 (R.d : Int), .int .i64 R.dl, .int .u16 (R.p.1 : Int), .int .u16 (R.p.2 : Int), .int .u16 (R.q.1 : Int), .int .u16 (R.q.2 : Int), .int .u8 (R.m.1 : Int), .int .u8 (R.m.2 : Int), .int .i64 R.act] 64)) := blk_on HR.out hb6
            have Gh : Hid (w6.heap[w.heap.size + 1]? = some (.cells #[.int .u32 (h.s : Int), .int .u32 (h.d : Int), .int .u16 (h.p : Int), .int .u16 (h.q : Int), .int .u8 (h.r : Int)] 28)) := blk_on Hh.out hb6
            have hbl6 : Hid (Below w.heap.size w w6) := bel_step hbl5.out (bel_a0 _) hb6
            clear HR Hh R_0 R_1 R_2 R_3 R_4 R_5 R_6 R_7 R_8 R_9 R_10 R_11 h_0 h_1 h_2 h_3 h_4 lR nR lh nh hb6 hbl5
            have HR := GR
            clear GR
            have Hh := Gh
            clear Gh
            have lR := blk_lt HR.out
            have nR : ¬ w.heap.size = w6.heap.size := by omega
            have lh := blk_lt Hh.out
            have nh : ¬ w.heap.size + 1 = w6.heap.size := by omega
            go_wp2_with (fail)
            go_ret
            exact ⟨ret_same (by simp), hbl6.out⟩
set_option maxHeartbeats 1000000 in
theorem allRC (i a : Int) (w : World) :
    Calls Tryz.prog 69 #[.int .i64 i, .int .i64 a] w fun e w' => e = .returned (.agg #[.int .i64 (allR i a).i, .int .u32 ((allR i a).s : Int), .int .i64 (allR i a).sl, .int .u32 ((allR i a).d : Int), .int .i64 (allR i a).dl, .int .u16 ((allR i a).p.1 : Int), .int .u16 ((allR i a).p.2 : Int), .int .u16 ((allR i a).q.1 : Int), .int .u16 ((allR i a).q.2 : Int), .int .u8 ((allR i a).m.1 : Int), .int .u8 ((allR i a).m.2 : Int), .int .i64 (allR i a).act]) ∧ Below w.heap.size w w' := by
  go_enter Tryz.func69, Tryz.ntmps69
  go_wp2_with (fail)
  exact bodyPost_ret (v := .agg #[.int .i64 i, .int .u32 0, .int .i64 0, .int .u32 0, .int .i64 0, .int .u16 0, .int .u16 65535, .int .u16 0, .int .u16 65535, .int .u8 0, .int .u8 0, .int .i64 a]) (by simp [results, Tryz.results69, go_sem]) rfl ⟨rfl, by (repeat (first | assumption | exact Below.refl _ _ | refine Below.drew ?_ | refine bel_drewN ?_ _ | refine Below.setCell ?_ (by first | omega | (simp; done) | (simp; omega)) _ | refine Below.alloc ?_ (by first | omega | (simp; done) | (simp; omega)) _ | refine bel_of ?_ (by assumption)))⟩
end Go.Proofs.YtgidohnikggjfaaGreat
