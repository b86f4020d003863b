/-
  PkAJ: TbRd TbA, one behind the other (tools/pack.py).
-/
import Derived.Test.YtgokmkholjfhbaaGreatPkAI
import Derived.Test.YtgokmkholjfhbaaGreatPkAH
import Derived.Test.YtgokmkholjfhbaaGreatPkAE
set_option linter.unusedVariables false
set_option linter.unusedSimpArgs false
namespace Go.Proofs.YtgokmkholjfhbaaGreat
open Go.RowKit
theorem bel_step {w W V w1 : World} (h : Below w.heap.size w W) (hV : Below W.heap.size W V) (hb : Below V.heap.size V w1) : Below w.heap.size w w1 := h.trans ((hV.trans (hb.mono hV.size)).mono h.size)
theorem bel_a0 (W : World) : Below W.heap.size W W := Below.refl _ _
theorem bel_a1 (W : World) (o : Obj) : Below W.heap.size W (W.alloc o) := (Below.refl _ _).alloc (Nat.le_refl _) _
theorem bel_a2 (W : World) (o p : Obj) : Below W.heap.size W ((W.alloc o).alloc p) := (bel_a1 W o).alloc (bel_a1 W o).size _
theorem mayBeC (R : Ru) (w : World) (b : BdR R) :
  Calls Tryz.prog 51 #[.agg #[.int .i64 R.i, .int .u32 R.s, .int .i64 R.sl, .int .u32 R.d, .int .i64 R.dl, .int .u16 R.p.1, .int .u16 R.p.2, .int .u16 R.q.1, .int .u16 R.q.2, .int .u8 R.m.1, .int .u8 R.m.2, .int .i64 R.act]] w fun e w' => e = .returned (.bool (okR R)) ∧ Below w.heap.size w w' := by
 have hC := fun W => checkRC R W b
 cases ho : okR R
 ·have hn := errs_no ho
  have hn' : ((errs R).1 == 0) = false := by simpa using hn
  generalize (errs R).1 = c at *
  generalize (errs R).2 = d at *
  clear ho b
  go_enter Tryz.func51, Tryz.ntmps51
  go_wp2_with (fail)
  refine (hC _).mono ?_
  rintro e w1 ⟨rfl, hb1⟩
  have GR : Hid (w1.heap[w.heap.size]? = some (.cells #[.int .i64 R.i, .int .u32 R.s, .int .i64 R.sl, .int .u32 R.d, .int .i64 R.dl, .int .u16 R.p.1, .int .u16 R.p.2, .int .u16 R.q.1, .int .u16 R.q.2, .int .u8 R.m.1, .int .u8 R.m.2, .int .i64 R.act] 64)) := blk_on (blk_new w (.cells #[.int .i64 R.i, .int .u32 R.s, .int .i64 R.sl, .int .u32 R.d, .int .i64 R.dl, .int .u16 R.p.1, .int .u16 R.p.2, .int .u16 R.q.1, .int .u16 R.q.2, .int .u8 R.m.1, .int .u8 R.m.2, .int .i64 R.act] 64)) hb1
  have hbl1 : Hid (Below w.heap.size w w1) := bel_step (Below.refl _ _) (bel_a1 _ _) hb1
  clear hb1
  have HR := GR
  clear GR
  have lR := blk_lt HR.out
  have nR : ¬ w.heap.size = w1.heap.size := by omega
  go_wp2_with (fail)
  go_ret
  exact ⟨rfl, hbl1.out⟩
 ·rw [errs_ok ho] at hC
  clear ho b
  go_enter Tryz.func51, Tryz.ntmps51
  go_wp2_with (fail)
  refine (hC _).mono ?_
  rintro e w1 ⟨rfl, hb1⟩
  have GR : Hid (w1.heap[w.heap.size]? = some (.cells #[.int .i64 R.i, .int .u32 R.s, .int .i64 R.sl, .int .u32 R.d, .int .i64 R.dl, .int .u16 R.p.1, .int .u16 R.p.2, .int .u16 R.q.1, .int .u16 R.q.2, .int .u8 R.m.1, .int .u8 R.m.2, .int .i64 R.act] 64)) := blk_on (blk_new w (.cells #[.int .i64 R.i, .int .u32 R.s, .int .i64 R.sl, .int .u32 R.d, .int .i64 R.dl, .int .u16 R.p.1, .int .u16 R.p.2, .int .u16 R.q.1, .int .u16 R.q.2, .int .u8 R.m.1, .int .u8 R.m.2, .int .i64 R.act] 64)) hb1
  have hbl1 : Hid (Below w.heap.size w w1) := bel_step (Below.refl _ _) (bel_a1 _ _) hb1
  clear hb1
  have HR := GR
  clear GR
  have lR := blk_lt HR.out
  have nR : ¬ w.heap.size = w1.heap.size := by omega
  go_wp2_with (fail)
  go_ret
  exact ⟨rfl, hbl1.out⟩
set_option maxRecDepth 20000 in
set_option maxHeartbeats 2000000 in
theorem matchC (R : Ru) (h : Hd) (w : World) (b : BdR R) (o : OkH h) :
  Calls Tryz.prog 38 #[.agg #[.int .i64 R.i, .int .u32 R.s, .int .i64 R.sl, .int .u32 R.d, .int .i64 R.dl, .int .u16 R.p.1, .int .u16 R.p.2, .int .u16 R.q.1, .int .u16 R.q.2, .int .u8 R.m.1, .int .u8 R.m.2, .int .i64 R.act], .agg #[.int .u32 h.s, .int .u32 h.d, .int .u16 h.p, .int .u16 h.q, .int .u8 h.r]] w fun e w' => e = .returned (.bool (matchR R h)) ∧ Below w.heap.size w w' := by
 have hM := fun W => mayBeC R W b
 cases ho : okR R
 ·rw [ho] at hM
  rw [match_no ho]
  clear ho b o
  go_enter Tryz.func38, Tryz.ntmps38
  go_wp2_with (fail)
  refine (hM _).mono ?_
  rintro e w1 ⟨rfl, hb1⟩
  have GR : Hid (w1.heap[w.heap.size]? = some (.cells #[.int .i64 R.i, .int .u32 R.s, .int .i64 R.sl, .int .u32 R.d, .int .i64 R.dl, .int .u16 R.p.1, .int .u16 R.p.2, .int .u16 R.q.1, .int .u16 R.q.2, .int .u8 R.m.1, .int .u8 R.m.2, .int .i64 R.act] 64)) := blk_on (blk_alloc (blk_new w (.cells #[.int .i64 R.i, .int .u32 R.s, .int .i64 R.sl, .int .u32 R.d, .int .i64 R.dl, .int .u16 R.p.1, .int .u16 R.p.2, .int .u16 R.q.1, .int .u16 R.q.2, .int .u8 R.m.1, .int .u8 R.m.2, .int .i64 R.act] 64)) _) hb1
  have Gh : Hid (w1.heap[w.heap.size + 1]? = some (.cells #[.int .u32 h.s, .int .u32 h.d, .int .u16 h.p, .int .u16 h.q, .int .u8 h.r] 28)) := blk_on (by simpa using blk_new (w.alloc (.cells #[.int .i64 R.i, .int .u32 R.s, .int .i64 R.sl, .int .u32 R.d, .int .i64 R.dl, .int .u16 R.p.1, .int .u16 R.p.2, .int .u16 R.q.1, .int .u16 R.q.2, .int .u8 R.m.1, .int .u8 R.m.2, .int .i64 R.act] 64)) (.cells #[.int .u32 h.s, .int .u32 h.d, .int .u16 h.p, .int .u16 h.q, .int .u8 h.r] 28)) hb1
  have hbl1 : Hid (Below w.heap.size w w1) := bel_step (Below.refl _ _) (bel_a2 _ _ _) hb1
  clear hb1
  have HR := GR
  clear GR
  have Hh := Gh
  clear Gh
  have lR := blk_lt HR.out
  have nR : ¬ w.heap.size = w1.heap.size := by omega
  have lh := blk_lt Hh.out
  have nh : ¬ w.heap.size + 1 = w1.heap.size := by omega
  go_wp2_with (fail)
  go_ret
  exact ⟨rfl, hbl1.out⟩
 ·rw [ho] at hM
  rw [match_in ho]
  obtain ⟨b1, b2, b3, b4, b5, b6, b7, b8, _⟩ := b
  obtain ⟨o1, o2, o3, o4, o5⟩ := o
  have k1 := fun W => Pf.has_any R.s R.sl h.s W b1 o1
  have k2 := fun W => Pf.has_any R.d R.dl h.d W b2 o2
  have k3 := fun W => hasSp R.p h.p W
  have k4 := fun W => hasSp R.q h.q W
  have k5 := fun W => hasC R.m.1 R.m.2 h.r W o5 b8
  generalize Pf.hasB R.s R.sl h.s = u1 at *
  generalize Pf.hasB R.d R.dl h.d = u2 at *
  generalize hasI R.p h.p = u3 at *
  generalize hasI R.q h.q = u4 at *
  generalize hasM R.m.1 R.m.2 h.r = u5 at *
  clear ho b1 b2 b3 b4 b5 b6 b7 b8 o1 o2 o3 o4 o5
  go_enter Tryz.func38, Tryz.ntmps38
  go_wp2_with (fail)
  refine (hM _).mono ?_
  rintro e w1 ⟨rfl, hb1⟩
  have GR : Hid (w1.heap[w.heap.size]? = some (.cells #[.int .i64 R.i, .int .u32 R.s, .int .i64 R.sl, .int .u32 R.d, .int .i64 R.dl, .int .u16 R.p.1, .int .u16 R.p.2, .int .u16 R.q.1, .int .u16 R.q.2, .int .u8 R.m.1, .int .u8 R.m.2, .int .i64 R.act] 64)) := blk_on (blk_alloc (blk_new w (.cells #[.int .i64 R.i, .int .u32 R.s, .int .i64 R.sl, .int .u32 R.d, .int .i64 R.dl, .int .u16 R.p.1, .int .u16 R.p.2, .int .u16 R.q.1, .int .u16 R.q.2, .int .u8 R.m.1, .int .u8 R.m.2, .int .i64 R.act] 64)) _) hb1
  have Gh : Hid (w1.heap[w.heap.size + 1]? = some (.cells #[.int .u32 h.s, .int .u32 h.d, .int .u16 h.p, .int .u16 h.q, .int .u8 h.r] 28)) := blk_on (by simpa using blk_new (w.alloc (.cells #[.int .i64 R.i, .int .u32 R.s, .int .i64 R.sl, .int .u32 R.d, .int .i64 R.dl, .int .u16 R.p.1, .int .u16 R.p.2, .int .u16 R.q.1, .int .u16 R.q.2, .int .u8 R.m.1, .int .u8 R.m.2, .int .i64 R.act] 64)) (.cells #[.int .u32 h.s, .int .u32 h.d, .int .u16 h.p, .int .u16 h.q, .int .u8 h.r] 28)) hb1
  have hbl1 : Hid (Below w.heap.size w w1) := bel_step (Below.refl _ _) (bel_a2 _ _ _) hb1
  clear hb1
  have HR := GR
  clear GR
  have Hh := Gh
  clear Gh
  have lR := blk_lt HR.out
  have nR : ¬ w.heap.size = w1.heap.size := by omega
  have lh := blk_lt Hh.out
  have nh : ¬ w.heap.size + 1 = w1.heap.size := by omega
  obtain ⟨R_0, R_1, R_2, R_3, R_4, R_5, R_6, R_7, R_8, R_9, R_10, R_11⟩ := blk12 HR.out
  obtain ⟨h_0, h_1, h_2, h_3, h_4⟩ := blk5 Hh.out
  go_wp2_with (fail)
  refine (k1 _).mono ?_
  rintro e w2 ⟨rfl, hb2⟩
  have GR : Hid (w2.heap[w.heap.size]? = some (.cells #[.int .i64 R.i, .int .u32 R.s, .int .i64 R.sl, .int .u32 R.d, .int .i64 R.dl, .int .u16 R.p.1, .int .u16 R.p.2, .int .u16 R.q.1, .int .u16 R.q.2, .int .u8 R.m.1, .int .u8 R.m.2, .int .i64 R.act] 64)) := blk_on HR.out hb2
  have Gh : Hid (w2.heap[w.heap.size + 1]? = some (.cells #[.int .u32 h.s, .int .u32 h.d, .int .u16 h.p, .int .u16 h.q, .int .u8 h.r] 28)) := blk_on Hh.out hb2
  have hbl2 : Hid (Below w.heap.size w w2) := bel_step hbl1.out (bel_a0 _) hb2
  clear HR Hh R_0 R_1 R_2 R_3 R_4 R_5 R_6 R_7 R_8 R_9 R_10 R_11 h_0 h_1 h_2 h_3 h_4 lR nR lh nh hb2 hbl1
  have HR := GR
  clear GR
  have Hh := Gh
  clear Gh
  have lR := blk_lt HR.out
  have nR : ¬ w.heap.size = w2.heap.size := by omega
  have lh := blk_lt Hh.out
  have nh : ¬ w.heap.size + 1 = w2.heap.size := by omega
  cases u1
  ·go_wp2_with (fail)
   go_ret
   exact ⟨ret_same (by simp), hbl2.out⟩
  ·skip
   obtain ⟨R_0, R_1, R_2, R_3, R_4, R_5, R_6, R_7, R_8, R_9, R_10, R_11⟩ := blk12 HR.out
   obtain ⟨h_0, h_1, h_2, h_3, h_4⟩ := blk5 Hh.out
   go_wp2_with (fail)
   refine (k2 _).mono ?_
   rintro e w3 ⟨rfl, hb3⟩
   have GR : Hid (w3.heap[w.heap.size]? = some (.cells #[.int .i64 R.i, .int .u32 R.s, .int .i64 R.sl, .int .u32 R.d, .int .i64 R.dl, .int .u16 R.p.1, .int .u16 R.p.2, .int .u16 R.q.1, .int .u16 R.q.2, .int .u8 R.m.1, .int .u8 R.m.2, .int .i64 R.act] 64)) := blk_on HR.out hb3
   have Gh : Hid (w3.heap[w.heap.size + 1]? = some (.cells #[.int .u32 h.s, .int .u32 h.d, .int .u16 h.p, .int .u16 h.q, .int .u8 h.r] 28)) := blk_on Hh.out hb3
   have hbl3 : Hid (Below w.heap.size w w3) := bel_step hbl2.out (bel_a0 _) hb3
   clear HR Hh R_0 R_1 R_2 R_3 R_4 R_5 R_6 R_7 R_8 R_9 R_10 R_11 h_0 h_1 h_2 h_3 h_4 lR nR lh nh hb3 hbl2
   have HR := GR
   clear GR
   have Hh := Gh
   clear Gh
   have lR := blk_lt HR.out
   have nR : ¬ w.heap.size = w3.heap.size := by omega
   have lh := blk_lt Hh.out
   have nh : ¬ w.heap.size + 1 = w3.heap.size := by omega
   cases u2
   ·go_wp2_with (fail)
    go_ret
    exact ⟨ret_same (by simp), hbl3.out⟩
   ·skip
    obtain ⟨R_0, R_1, R_2, R_3, R_4, R_5, R_6, R_7, R_8, R_9, R_10, R_11⟩ := blk12 HR.out
    obtain ⟨h_0, h_1, h_2, h_3, h_4⟩ := blk5 Hh.out
    go_wp2_with (fail)
    refine (k3 _).mono ?_
    rintro e w4 ⟨rfl, hb4⟩
    have GR : Hid (w4.heap[w.heap.size]? = some (.cells #[.int .i64 R.i, .int .u32 R.s, .int .i64 R.sl, .int .u32 R.d, .int .i64 R.dl, .int .u16 R.p.1, .int .u16 R.p.2, .int .u16 R.q.1, .int .u16 R.q.2, .int .u8 R.m.1, .int .u8 R.m.2, .int .i64 R.act] 64)) := blk_on HR.out hb4
    have Gh : Hid (w4.heap[w.heap.size + 1]? = some (.cells #[.int .u32 h.s, .int .u32 h.d, .int .u16 h.p, .int .u16 h.q, .int .u8 h.r] 28)) := blk_on Hh.out hb4
    have hbl4 : Hid (Below w.heap.size w w4) := bel_step hbl3.out (bel_a0 _) hb4
    clear HR Hh R_0 R_1 R_2 R_3 R_4 R_5 R_6 R_7 R_8 R_9 R_10 R_11 h_0 h_1 h_2 h_3 h_4 lR nR lh nh hb4 hbl3
    have HR := GR
    clear GR
    have Hh := Gh
    clear Gh
    have lR := blk_lt HR.out
    have nR : ¬ w.heap.size = w4.heap.size := by omega
    have lh := blk_lt Hh.out
    have nh : ¬ w.heap.size + 1 = w4.heap.size := by omega
    cases u3
    ·go_wp2_with (fail)
     go_ret
     exact ⟨ret_same (by simp), hbl4.out⟩
    ·skip
     obtain ⟨R_0, R_1, R_2, R_3, R_4, R_5, R_6, R_7, R_8, R_9, R_10, R_11⟩ := blk12 HR.out
     obtain ⟨h_0, h_1, h_2, h_3, h_4⟩ := blk5 Hh.out
     go_wp2_with (fail)
     refine (k4 _).mono ?_
     rintro e w5 ⟨rfl, hb5⟩
     have GR : Hid (w5.heap[w.heap.size]? = some (.cells #[.int .i64 R.i, .int .u32 R.s, .int .i64 R.sl, .int .u32 R.d, .int .i64 R.dl, .int .u16 R.p.1, .int .u16 R.p.2, .int .u16 R.q.1, .int .u16 R.q.2, .int .u8 R.m.1, .int .u8 R.m.2, .int .i64 R.act] 64)) := blk_on HR.out hb5
     have Gh : Hid (w5.heap[w.heap.size + 1]? = some (.cells #[.int .u32 h.s, .int .u32 h.d, .int .u16 h.p, .int .u16 h.q, .int .u8 h.r] 28)) := blk_on Hh.out hb5
     have hbl5 : Hid (Below w.heap.size w w5) := bel_step hbl4.out (bel_a0 _) hb5
     clear HR Hh R_0 R_1 R_2 R_3 R_4 R_5 R_6 R_7 R_8 R_9 R_10 R_11 h_0 h_1 h_2 h_3 h_4 lR nR lh nh hb5 hbl4
     have HR := GR
     clear GR
     have Hh := Gh
     clear Gh
     have lR := blk_lt HR.out
     have nR : ¬ w.heap.size = w5.heap.size := by omega
     have lh := blk_lt Hh.out
     have nh : ¬ w.heap.size + 1 = w5.heap.size := by omega
     cases u4
     ·go_wp2_with (fail)
      go_ret
      exact ⟨ret_same (by simp), hbl5.out⟩
     ·skip
      obtain ⟨R_0, R_1, R_2, R_3, R_4, R_5, R_6, R_7, R_8, R_9, R_10, R_11⟩ := blk12 HR.out
      obtain ⟨h_0, h_1, h_2, h_3, h_4⟩ := blk5 Hh.out
      go_wp2_with (fail)
      refine (k5 _).mono ?_
      rintro e w6 ⟨rfl, hb6⟩
      have GR : Hid (w6.heap[w.heap.size]? = some (.cells #[.int .i64 R.i, .int .u32 R.s, .int .i64 R.sl, .int .u32 R.d, .int .i64 R.dl, .int .u16 R.p.1, .int .u16 R.p.2, .int .u16 R.q.1, .int .u16 R.q.2, .int .u8 R.m.1, .int .u8 R.m.2, .int .i64 R.act] 64)) := blk_on HR.out hb6
      have Gh : Hid (w6.heap[w.heap.size + 1]? = some (.cells #[.int .u32 h.s, .int .u32 h.d, .int .u16 h.p, .int .u16 h.q, .int .u8 h.r] 28)) := blk_on Hh.out hb6
      have hbl6 : Hid (Below w.heap.size w w6) := bel_step hbl5.out (bel_a0 _) hb6
      clear HR Hh R_0 R_1 R_2 R_3 R_4 R_5 R_6 R_7 R_8 R_9 R_10 R_11 h_0 h_1 h_2 h_3 h_4 lR nR lh nh hb6 hbl5
      have HR := GR
      clear GR
      have Hh := Gh
      clear Gh
      have lR := blk_lt HR.out
      have nR : ¬ w.heap.size = w6.heap.size := by omega
      have lh := blk_lt Hh.out
      have nh : ¬ w.heap.size + 1 = w6.heap.size := by omega
      go_wp2_with (fail)
      go_ret
      exact ⟨ret_same (by simp), hbl6.out⟩
set_option maxHeartbeats 1000000 in
theorem allRC (i a : Int) (w : World) :
  Calls Tryz.prog 60 #[.int .i64 i, .int .i64 a] w fun e w' => e = .returned (.agg #[.int .i64 (allR i a).i, .int .u32 ((allR i a).s : Int), .int .i64 (allR i a).sl, .int .u32 ((allR i a).d : Int), .int .i64 (allR i a).dl, .int .u16 ((allR i a).p.1 : Int), .int .u16 ((allR i a).p.2 : Int), .int .u16 ((allR i a).q.1 : Int), .int .u16 ((allR i a).q.2 : Int), .int .u8 ((allR i a).m.1 : Int), .int .u8 ((allR i a).m.2 : Int), .int .i64 (allR i a).act]) ∧ Below w.heap.size w w' := by
 go_enter Tryz.func60, Tryz.ntmps60
 go_wp2_with (fail)
 exact bodyPost_ret (v := .agg #[.int .i64 i, .int .u32 0, .int .i64 0, .int .u32 0, .int .i64 0, .int .u16 0, .int .u16 65535, .int .u16 0, .int .u16 65535, .int .u8 0, .int .u8 0, .int .i64 a]) (by simp [results, Tryz.results60, go_sem]) rfl ⟨rfl, belA⟩
structure Cf where
 m : Int
 a : Int
 p : Int
 g : Int
 t : Int
 b : Int
 d : Int
def BdC (c : Cf) : Prop := I64 c.m ∧ I64 c.a ∧ I64 c.p ∧ I64 c.g ∧ I64 c.t ∧ I64 c.b ∧ I64 c.d
def amg (n a b : Int) : Bool := decide (a ≤ n) && decide (n ≤ b)
theorem amg_iff {n a b : Int} : amg n a b = true ↔ a ≤ n ∧ n ≤ b := by unfold amg; simp
def okC (c : Cf) : Bool := amg c.m 1 64 && amg c.a 1 4 && (amg c.p 0 1048576 && amg c.g 0 1048576 && amg c.t 0 1048576) && (amg c.b 1 16 && amg c.d 0 10)
def errC (c : Cf) : Int := if okC c then 0 else 110
theorem amongC (n a b : Int) (w : World) : Calls Tryz.prog 44 #[.int .i64 n, .int .i64 a, .int .i64 b] w fun e w' => e = .returned (.bool (amg n a b)) ∧ w' = w := by
 unfold amg
 by_cases h : a ≤ n
 ·rw [decide_eq_true h, Bool.true_and]
  go_enter Tryz.func44, Tryz.ntmps44
  go_wp2
  go_ret
  exact ⟨rfl, rfl⟩
 ·rw [decide_eq_false h, Bool.false_and]
  go_enter Tryz.func44, Tryz.ntmps44
  go_wp2
  go_ret
  exact ⟨ret_same (by simp), rfl⟩
theorem allR_bd (i a : Int) (hi : I64 i) (ha : I64 a) : BdR (allR i a) := by
 unfold BdR allR
 have n1 : (0 : Nat) < 4294967296 := by decide
 have n2 : (0 : Nat) < 65536 := by decide
 have n3 : (65535 : Nat) < 65536 := by decide
 have n4 : (0 : Nat) < 256 := by decide
 have n5 : I64 0 := by unfold I64; decide
 exact ⟨n1, n1, n2, n3, n2, n3, n4, n4, hi, n5, n5, ha⟩
theorem isActionC (a : Int) (ha : I64 a) (w : World) : Calls Tryz.prog 45 #[.int .i64 a] w fun e w' => e = .returned (.bool (amg a 1 4)) ∧ Below w.heap.size w w' := by
 have hA := fun W => allRC 1 a W
 have hC := fun W => checkRC (allR 1 a) W (allR_bd 1 a (by unfold I64; decide) ha)
 have he : amg a 1 4 = decide ((errs (allR 1 a)).1 = 0) := by
  rw [Bool.eq_iff_iff, decide_eq_true_eq, ← okR_err, allR_ok, decide_eq_true_eq, amg_iff]
  omega
 rw [he]
 generalize (errs (allR 1 a)).1 = x at *
 generalize (errs (allR 1 a)).2 = y at *
 clear he
 simp only [allR] at hA hC
 go_enter Tryz.func45, Tryz.ntmps45
 go_wp2_with (fail)
 refine (hA _).mono ?_
 rintro e w1 ⟨rfl, hb1⟩
 go_wp2_with (fail)
 refine (hC _).mono ?_
 rintro e w2 ⟨rfl, hb2⟩
 go_wp2_with (fail)
 go_ret
 exact ⟨ret_same (by first | rfl | simp), hb1.trans (hb2.mono hb1.size)⟩
set_option maxHeartbeats 2000000 in
theorem checkCC (c : Cf) (o : BdC c) (w : World) : Calls Tryz.prog 33 #[.agg #[.int .i64 c.m, .int .i64 c.a, .int .i64 c.p, .int .i64 c.g, .int .i64 c.t, .int .i64 c.b, .int .i64 c.d]] w fun e w' => e = .returned (.int .i64 (errC c)) ∧ Below w.heap.size w w' := by
 have k1 := fun W => amongC c.p 0 1048576 W
 have k2 := fun W => amongC c.g 0 1048576 W
 have k3 := fun W => amongC c.t 0 1048576 W
 have k4 := fun W => amongC c.b 1 16 W
 have k5 := fun W => amongC c.d 0 10 W
 have k6 := fun W => amongC c.m 1 64 W
 have k7 := fun W => isActionC c.a o.2.1 W
 obtain ⟨E, hE⟩ : ∃ E, E = errC c := ⟨_, rfl⟩
 rw [← hE]
 have HE : Hid (E = if (amg c.m 1 64 && amg c.a 1 4 && (amg c.p 0 1048576 && amg c.g 0 1048576 && amg c.t 0 1048576) && (amg c.b 1 16 && amg c.d 0 10)) = true then 0 else 110) := hE
 clear o hE
 generalize amg c.p 0 1048576 = q1 at *
 generalize amg c.g 0 1048576 = q2 at *
 generalize amg c.t 0 1048576 = q3 at *
 generalize amg c.b 1 16 = q4 at *
 generalize amg c.d 0 10 = q5 at *
 generalize amg c.m 1 64 = q6 at *
 generalize amg c.a 1 4 = q7 at *
 go_enter Tryz.func33, Tryz.ntmps33
 go_upto_region 1 with (fail)
 have c0 : (w.alloc (.cells #[.int .i64 c.m, .int .i64 c.a, .int .i64 c.p, .int .i64 c.g, .int .i64 c.t, .int .i64 c.b, .int .i64 c.d] 24)).cell? ⟨w.heap.size, 0, none⟩ = some (.int .i64 c.m) := blk_cell (blk_new w _) rfl
 have c1 : (w.alloc (.cells #[.int .i64 c.m, .int .i64 c.a, .int .i64 c.p, .int .i64 c.g, .int .i64 c.t, .int .i64 c.b, .int .i64 c.d] 24)).cell? ⟨w.heap.size, 1, none⟩ = some (.int .i64 c.a) := blk_cell (blk_new w _) rfl
 have c2 : (w.alloc (.cells #[.int .i64 c.m, .int .i64 c.a, .int .i64 c.p, .int .i64 c.g, .int .i64 c.t, .int .i64 c.b, .int .i64 c.d] 24)).cell? ⟨w.heap.size, 2, none⟩ = some (.int .i64 c.p) := blk_cell (blk_new w _) rfl
 have c3 : (w.alloc (.cells #[.int .i64 c.m, .int .i64 c.a, .int .i64 c.p, .int .i64 c.g, .int .i64 c.t, .int .i64 c.b, .int .i64 c.d] 24)).cell? ⟨w.heap.size, 3, none⟩ = some (.int .i64 c.g) := blk_cell (blk_new w _) rfl
 have c4 : (w.alloc (.cells #[.int .i64 c.m, .int .i64 c.a, .int .i64 c.p, .int .i64 c.g, .int .i64 c.t, .int .i64 c.b, .int .i64 c.d] 24)).cell? ⟨w.heap.size, 4, none⟩ = some (.int .i64 c.t) := blk_cell (blk_new w _) rfl
 have c5 : (w.alloc (.cells #[.int .i64 c.m, .int .i64 c.a, .int .i64 c.p, .int .i64 c.g, .int .i64 c.t, .int .i64 c.b, .int .i64 c.d] 24)).cell? ⟨w.heap.size, 5, none⟩ = some (.int .i64 c.b) := blk_cell (blk_new w _) rfl
 have c6 : (w.alloc (.cells #[.int .i64 c.m, .int .i64 c.a, .int .i64 c.p, .int .i64 c.g, .int .i64 c.t, .int .i64 c.b, .int .i64 c.d] 24)).cell? ⟨w.heap.size, 6, none⟩ = some (.int .i64 c.d) := blk_cell (blk_new w _) rfl
 have HB : Hid (Below w.heap.size w (w.alloc (.cells #[.int .i64 c.m, .int .i64 c.a, .int .i64 c.p, .int .i64 c.g, .int .i64 c.t, .int .i64 c.b, .int .i64 c.d] 24))) := (Below.refl _ _).alloc (Nat.le_refl _) _
 generalize w.alloc (.cells #[.int .i64 c.m, .int .i64 c.a, .int .i64 c.p, .int .i64 c.g, .int .i64 c.t, .int .i64 c.b, .int .i64 c.d] 24) = W at *
 go_cut [3] (fun s wx => s = .bool (q1 && q2 && q3) ∧ Hid (wx = W))
 case first =>
  clear k4 k5 k6 k7
  go_wp2_with (fail)
  refine (k1 _).mono ?_
  rintro e w1 ⟨rfl, hw⟩
  obtain rfl := hw.symm
  clear hw
  cases q1
  ·go_wp2_with (fail)
   go_meet
   case rel => exact ⟨by simp, rfl⟩
  ·go_wp2_with (fail)
   refine (k2 _).mono ?_
   rintro e w1 ⟨rfl, hw⟩
   obtain rfl := hw.symm
   clear hw
   cases q2
   ·go_wp2_with (fail)
    go_meet
    case rel => exact ⟨by simp, rfl⟩
   ·go_wp2_with (fail)
    refine (k3 _).mono ?_
    rintro e w1 ⟨rfl, hw⟩
    obtain rfl := hw.symm
    clear hw
    go_wp2_with (fail)
    go_meet
    case rel => exact ⟨by simp, rfl⟩
 case rest =>
  obtain ⟨rfl, hx⟩ := hcut
  obtain rfl := hx.out.symm
  clear hx k1 k2 k3
  generalize (q1 && q2 && q3) = Q1 at *
  go_upto_region 2 with (fail)
  go_cut [4] (fun s wx => s = .bool (q4 && q5) ∧ Hid (wx = W))
  case first =>
   clear k6 k7
   go_wp2_with (fail)
   refine (k4 _).mono ?_
   rintro e w1 ⟨rfl, hw⟩
   obtain rfl := hw.symm
   clear hw
   cases q4
   ·go_wp2_with (fail)
    go_meet
    case rel => exact ⟨by simp, rfl⟩
   ·go_wp2_with (fail)
    refine (k5 _).mono ?_
    rintro e w1 ⟨rfl, hw⟩
    obtain rfl := hw.symm
    clear hw
    go_wp2_with (fail)
    go_meet
    case rel => exact ⟨by simp, rfl⟩
  case rest =>
   obtain ⟨rfl, hx⟩ := hcut
   obtain rfl := hx.out.symm
   clear hx k4 k5
   generalize (q4 && q5) = Q2 at *
   go_wp2_with (fail)
   refine (k6 _).mono ?_
   rintro e w1 ⟨rfl, hw⟩
   obtain rfl := hw.symm
   clear hw
   cases q6
   ·go_wp2_with (fail)
    go_ret
    exact ⟨ret_int (by rw [HE.out]; rfl), HB.out⟩
   ·go_wp2_with (fail)
    refine (k7 _).mono ?_
    rintro e w1 ⟨rfl, hb1⟩
    have HB1 : Hid (Below w.heap.size w w1) := HB.out.trans (hb1.mono HB.out.size)
    clear hb1
    cases q7 <;> cases Q1 <;> cases Q2
    all_goals
     go_wp2_with (fail)
     go_ret
     exact ⟨ret_int (by rw [HE.out]; rfl), HB1.out⟩
set_option maxRecDepth 20000 in
set_option maxHeartbeats 2000000 in
theorem isIdC (id : Int) (R : Ru) (B : Nat) (w : World) (hB : w.cell? ⟨B, 0, none⟩ = some (.int .i64 id)) :
  Calls Tryz.prog 98 #[.agg #[.int .i64 R.i, .int .u32 R.s, .int .i64 R.sl, .int .u32 R.d, .int .i64 R.dl, .int .u16 R.p.1, .int .u16 R.p.2, .int .u16 R.q.1, .int .u16 R.q.2, .int .u8 R.m.1, .int .u8 R.m.2, .int .i64 R.act], .pointer (some ⟨B, 0, none⟩)] w fun e w' => e = .returned (.bool (decide (R.i = id))) ∧ Below w.heap.size w w' := by
 have hlt := World.block_lt_of_cell? w _ hB
 have hne : ¬ B = w.heap.size := by have : B < w.heap.size := hlt; omega
 have hB1 : (w.alloc (.cells #[.int .i64 R.i, .int .u32 R.s, .int .i64 R.sl, .int .u32 R.d, .int .i64 R.dl, .int .u16 R.p.1, .int .u16 R.p.2, .int .u16 R.q.1, .int .u16 R.q.2, .int .u8 R.m.1, .int .u8 R.m.2, .int .i64 R.act] 64)).cell? ⟨B, 0, none⟩ = some (.int .i64 id) := cell_on1 ((Below.refl _ _).alloc (Nat.le_refl _) _) hB
 go_enter Tryz.func98, Tryz.ntmps98
 go_wp2_with (fail)
 go_ret
 exact ⟨ret_same (by first | rfl | (rw [Bool.eq_iff_iff]; simp)), belA⟩
end Go.Proofs.YtgokmkholjfhbaaGreat

