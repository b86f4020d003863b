/-
  PkBR: TbRf, one behind the other (tools/pack.py).
-/
import Derived.Test.YtgokmkholjfhbaaGreatPkBQ
import Derived.Test.YtgokmkholjfhbaaGreatPkAE
set_option linter.unusedVariables false
set_option linter.unusedSimpArgs false
namespace Go.Proofs.YtgokmkholjfhbaaGreat
open Go.RowKit
set_option maxRecDepth 20000 in
set_option maxHeartbeats 4000000 in
theorem rmatchR (R : Ru) (h : Hd) (w : World) (b : BdR R) (o : OkH h) :
  Calls Tryz.prog 58 #[.agg #[.int .i64 R.i, .int .u32 R.s, .int .i64 R.sl, .int .u32 R.d, .int .i64 R.dl, .int .u16 R.p.1, .int .u16 R.p.2, .int .u16 R.q.1, .int .u16 R.q.2, .int .u8 R.m.1, .int .u8 R.m.2, .int .i64 R.act], .agg #[.int .u32 h.s, .int .u32 h.d, .int .u16 h.p, .int .u16 h.q, .int .u8 h.r]] w fun e w' => e = .returned (.bool (matchR R h)) ∧ Below w.heap.size w w' := by
 have hM := fun W => rmayR R W b
 cases ho : okR R
 ·rw [ho] at hM
  rw [match_no ho]
  clear ho b o
  go_enter Tryz.func58, Tryz.ntmps58
  go_wp2_with (fail)
  refine (hM _).mono ?_
  rintro e w1 ⟨rfl, hb1⟩
  have GR : Hid (w1.heap[w.heap.size]? = some (.cells #[.int .i64 R.i, .int .u32 R.s, .int .i64 R.sl, .int .u32 R.d, .int .i64 R.dl, .int .u16 R.p.1, .int .u16 R.p.2, .int .u16 R.q.1, .int .u16 R.q.2, .int .u8 R.m.1, .int .u8 R.m.2, .int .i64 R.act] 64)) := blk_on (blk_alloc (blk_new w (.cells #[.int .i64 R.i, .int .u32 R.s, .int .i64 R.sl, .int .u32 R.d, .int .i64 R.dl, .int .u16 R.p.1, .int .u16 R.p.2, .int .u16 R.q.1, .int .u16 R.q.2, .int .u8 R.m.1, .int .u8 R.m.2, .int .i64 R.act] 64)) _) hb1
  have Gh : Hid (w1.heap[w.heap.size + 1]? = some (.cells #[.int .u32 h.s, .int .u32 h.d, .int .u16 h.p, .int .u16 h.q, .int .u8 h.r] 28)) := blk_on (by simpa using blk_new (w.alloc (.cells #[.int .i64 R.i, .int .u32 R.s, .int .i64 R.sl, .int .u32 R.d, .int .i64 R.dl, .int .u16 R.p.1, .int .u16 R.p.2, .int .u16 R.q.1, .int .u16 R.q.2, .int .u8 R.m.1, .int .u8 R.m.2, .int .i64 R.act] 64)) (.cells #[.int .u32 h.s, .int .u32 h.d, .int .u16 h.p, .int .u16 h.q, .int .u8 h.r] 28)) hb1
  have HO1 : Hid (w.heap.size + 1 < w1.heap.size) := blk_lt Gh.out
  have hbl1 : Hid (Below w.heap.size w w1) := bel_step (Below.refl _ _) (bel_a2 _ _ _) hb1
  clear hb1
  have HR := GR
  clear GR
  have Hh := Gh
  clear Gh
  have lR := blk_lt HR.out
  have nR : ¬ w.heap.size = w1.heap.size := by omega
  have lh := blk_lt Hh.out
  have nh : ¬ w.heap.size + 1 = w1.heap.size := by omega
  go_wp2_with (fail)
  go_ret
  exact ⟨rfl, hbl1.out⟩
 ·rw [ho] at hM
  have e : matchR R h = ((hasI R.p h.p && hasI R.q h.q) && Pf.hasB R.s R.sl h.s && Pf.hasB R.d R.dl h.d && hasM R.m.1 R.m.2 h.r) := by
   rw [match_in ho]
   generalize Pf.hasB R.s R.sl h.s = u1
   generalize Pf.hasB R.d R.dl h.d = u2
   generalize hasI R.p h.p = u3
   generalize hasI R.q h.q = u4
   generalize hasM R.m.1 R.m.2 h.r = u5
   cases u1 <;> cases u2 <;> cases u3 <;> cases u4 <;> cases u5 <;> rfl
  rw [e]
  obtain ⟨b1, b2, b3, b4, b5, b6, b7, b8, _⟩ := b
  obtain ⟨o1, o2, o3, o4, o5⟩ := o
  have k1 := fun W => Pf.rhas_any R.s R.sl h.s W b1 o1
  have k2 := fun W => Pf.rhas_any R.d R.dl h.d W b2 o2
  have k5 := fun W => rhasM R.m.1 R.m.2 h.r W b7 b8 o5
  have HPP : Hid ((hasI R.p h.p && hasI R.q h.q) = decide (((R.p.1 : Int) ≤ h.p ∧ (h.p : Int) ≤ R.p.2) ∧ (R.q.1 : Int) ≤ h.q ∧ (h.q : Int) ≤ R.q.2)) := by
   show _ = _
   unfold hasI
   rw [Bool.eq_iff_iff]
   simp only [Bool.and_eq_true, decide_eq_true_eq]
   omega
  generalize Pf.hasB R.s R.sl h.s = u1 at *
  generalize Pf.hasB R.d R.dl h.d = u2 at *
  generalize (hasI R.p h.p && hasI R.q h.q) = pp at *
  generalize hasM R.m.1 R.m.2 h.r = u5 at *
  clear ho b1 b2 b3 b4 b5 b6 b7 b8 o1 o2 o3 o4 o5 e
  go_enter Tryz.func58, Tryz.ntmps58
  go_wp2_with (fail)
  refine (hM _).mono ?_
  rintro e w1 ⟨rfl, hb1⟩
  have GR : Hid (w1.heap[w.heap.size]? = some (.cells #[.int .i64 R.i, .int .u32 R.s, .int .i64 R.sl, .int .u32 R.d, .int .i64 R.dl, .int .u16 R.p.1, .int .u16 R.p.2, .int .u16 R.q.1, .int .u16 R.q.2, .int .u8 R.m.1, .int .u8 R.m.2, .int .i64 R.act] 64)) := blk_on (blk_alloc (blk_new w (.cells #[.int .i64 R.i, .int .u32 R.s, .int .i64 R.sl, .int .u32 R.d, .int .i64 R.dl, .int .u16 R.p.1, .int .u16 R.p.2, .int .u16 R.q.1, .int .u16 R.q.2, .int .u8 R.m.1, .int .u8 R.m.2, .int .i64 R.act] 64)) _) hb1
  have Gh : Hid (w1.heap[w.heap.size + 1]? = some (.cells #[.int .u32 h.s, .int .u32 h.d, .int .u16 h.p, .int .u16 h.q, .int .u8 h.r] 28)) := blk_on (by simpa using blk_new (w.alloc (.cells #[.int .i64 R.i, .int .u32 R.s, .int .i64 R.sl, .int .u32 R.d, .int .i64 R.dl, .int .u16 R.p.1, .int .u16 R.p.2, .int .u16 R.q.1, .int .u16 R.q.2, .int .u8 R.m.1, .int .u8 R.m.2, .int .i64 R.act] 64)) (.cells #[.int .u32 h.s, .int .u32 h.d, .int .u16 h.p, .int .u16 h.q, .int .u8 h.r] 28)) hb1
  have HO1 : Hid (w.heap.size + 1 < w1.heap.size) := blk_lt Gh.out
  have hbl1 : Hid (Below w.heap.size w w1) := bel_step (Below.refl _ _) (bel_a2 _ _ _) hb1
  clear hb1
  have HR := GR
  clear GR
  have Hh := Gh
  clear Gh
  have lR := blk_lt HR.out
  have nR : ¬ w.heap.size = w1.heap.size := by omega
  have lh := blk_lt Hh.out
  have nh : ¬ w.heap.size + 1 = w1.heap.size := by omega
  go_upto_region 3 with (fail)
  go_cut [5] (fun v wx => v = .bool pp ∧ Hid (wx = w1))
  case first =>
   obtain ⟨R_0, R_1, R_2, R_3, R_4, R_5, R_6, R_7, R_8, R_9, R_10, R_11⟩ := blk12 HR.out
   obtain ⟨h_0, h_1, h_2, h_3, h_4⟩ := blk5 Hh.out
   by_cases c0 : (R.p.1 : Int) ≤ h.p
   ·by_cases c1 : (h.p : Int) ≤ R.p.2
    ·by_cases c2 : (R.q.1 : Int) ≤ h.q
     ·by_cases c3 : (h.q : Int) ≤ R.q.2
      ·go_wp2_with (fail)
       go_meet
       case rel => exact ⟨by rw [HPP.out]; simp <;> omega, rfl⟩
      ·go_wp2_with (fail)
       go_meet
       case rel => exact ⟨by rw [HPP.out]; simp <;> omega, rfl⟩
     ·go_wp2_with (fail)
      go_meet
      case rel => exact ⟨by rw [HPP.out]; simp <;> omega, rfl⟩
    ·go_wp2_with (fail)
     go_meet
     case rel => exact ⟨by rw [HPP.out]; simp <;> omega, rfl⟩
   ·go_wp2_with (fail)
    go_meet
    case rel => exact ⟨by rw [HPP.out]; simp <;> omega, rfl⟩
  case rest =>
   obtain ⟨rfl, hcw⟩ := hcut
   obtain rfl := hcw.out
   clear hcw
   clear HPP
   cases pp
   ·go_wp2_with (fail)
    go_ret
    exact ⟨ret_same (by simp), hbl1.out⟩
   ·skip
    obtain ⟨R_0, R_1, R_2, R_3, R_4, R_5, R_6, R_7, R_8, R_9, R_10, R_11⟩ := blk12 HR.out
    obtain ⟨h_0, h_1, h_2, h_3, h_4⟩ := blk5 Hh.out
    go_wp2_with (fail)
    refine (k1 _).mono ?_
    rintro e w2 ⟨rfl, hb2⟩
    have GR : Hid (w2.heap[w.heap.size]? = some (.cells #[.int .i64 R.i, .int .u32 R.s, .int .i64 R.sl, .int .u32 R.d, .int .i64 R.dl, .int .u16 R.p.1, .int .u16 R.p.2, .int .u16 R.q.1, .int .u16 R.q.2, .int .u8 R.m.1, .int .u8 R.m.2, .int .i64 R.act] 64)) := blk_on HR.out hb2
    have Gh : Hid (w2.heap[w.heap.size + 1]? = some (.cells #[.int .u32 h.s, .int .u32 h.d, .int .u16 h.p, .int .u16 h.q, .int .u8 h.r] 28)) := blk_on Hh.out hb2
    have hbl2 : Hid (Below w.heap.size w w2) := bel_step hbl1.out (bel_a0 _) hb2
    clear HR Hh R_0 R_1 R_2 R_3 R_4 R_5 R_6 R_7 R_8 R_9 R_10 R_11 h_0 h_1 h_2 h_3 h_4 lR nR lh nh hb2 hbl1
    have HR := GR
    clear GR
    have Hh := Gh
    clear Gh
    have lR := blk_lt HR.out
    have nR : ¬ w.heap.size = w2.heap.size := by omega
    have lh := blk_lt Hh.out
    have nh : ¬ w.heap.size + 1 = w2.heap.size := by omega
    cases u1
    ·go_wp2_with (fail)
     go_ret
     exact ⟨ret_same (by simp), hbl2.out⟩
    ·skip
     obtain ⟨R_0, R_1, R_2, R_3, R_4, R_5, R_6, R_7, R_8, R_9, R_10, R_11⟩ := blk12 HR.out
     obtain ⟨h_0, h_1, h_2, h_3, h_4⟩ := blk5 Hh.out
     go_wp2_with (fail)
     refine (k2 _).mono ?_
     rintro e w3 ⟨rfl, hb3⟩
     have GR : Hid (w3.heap[w.heap.size]? = some (.cells #[.int .i64 R.i, .int .u32 R.s, .int .i64 R.sl, .int .u32 R.d, .int .i64 R.dl, .int .u16 R.p.1, .int .u16 R.p.2, .int .u16 R.q.1, .int .u16 R.q.2, .int .u8 R.m.1, .int .u8 R.m.2, .int .i64 R.act] 64)) := blk_on HR.out hb3
     have Gh : Hid (w3.heap[w.heap.size + 1]? = some (.cells #[.int .u32 h.s, .int .u32 h.d, .int .u16 h.p, .int .u16 h.q, .int .u8 h.r] 28)) := blk_on Hh.out hb3
     have hbl3 : Hid (Below w.heap.size w w3) := bel_step hbl2.out (bel_a0 _) hb3
     clear HR Hh R_0 R_1 R_2 R_3 R_4 R_5 R_6 R_7 R_8 R_9 R_10 R_11 h_0 h_1 h_2 h_3 h_4 lR nR lh nh hb3 hbl2
     have HR := GR
     clear GR
     have Hh := Gh
     clear Gh
     have lR := blk_lt HR.out
     have nR : ¬ w.heap.size = w3.heap.size := by omega
     have lh := blk_lt Hh.out
     have nh : ¬ w.heap.size + 1 = w3.heap.size := by omega
     cases u2
     ·go_wp2_with (fail)
      go_ret
      exact ⟨ret_same (by simp), hbl3.out⟩
     ·skip
      obtain ⟨R_0, R_1, R_2, R_3, R_4, R_5, R_6, R_7, R_8, R_9, R_10, R_11⟩ := blk12 HR.out
      obtain ⟨h_0, h_1, h_2, h_3, h_4⟩ := blk5 Hh.out
      go_wp2_with (fail)
      refine (k5 _).mono ?_
      rintro e w4 ⟨rfl, hb4⟩
      have GR : Hid (w4.heap[w.heap.size]? = some (.cells #[.int .i64 R.i, .int .u32 R.s, .int .i64 R.sl, .int .u32 R.d, .int .i64 R.dl, .int .u16 R.p.1, .int .u16 R.p.2, .int .u16 R.q.1, .int .u16 R.q.2, .int .u8 R.m.1, .int .u8 R.m.2, .int .i64 R.act] 64)) := blk_on HR.out hb4
      have Gh : Hid (w4.heap[w.heap.size + 1]? = some (.cells #[.int .u32 h.s, .int .u32 h.d, .int .u16 h.p, .int .u16 h.q, .int .u8 h.r] 28)) := blk_on Hh.out hb4
      have hbl4 : Hid (Below w.heap.size w w4) := bel_step hbl3.out (bel_a0 _) hb4
      clear HR Hh R_0 R_1 R_2 R_3 R_4 R_5 R_6 R_7 R_8 R_9 R_10 R_11 h_0 h_1 h_2 h_3 h_4 lR nR lh nh hb4 hbl3
      have HR := GR
      clear GR
      have Hh := Gh
      clear Gh
      have lR := blk_lt HR.out
      have nR : ¬ w.heap.size = w4.heap.size := by omega
      have lh := blk_lt Hh.out
      have nh : ¬ w.heap.size + 1 = w4.heap.size := by omega
      go_wp2_with (fail)
      go_ret
      exact ⟨ret_same (by simp), hbl4.out⟩
end Go.Proofs.YtgokmkholjfhbaaGreat
