/-
  PkBQ: PxR2 PxPlB PxS2 TbRe, one behind the other (tools/pack.py).
-/
import Derived.Test.YtgokmkholjfhbaaGreatPkAH
import Derived.Deep.RegionWith
import Derived.Test.YtgokmkholjfhbaaGreatPkAE
import Derived.Test.YtgokmkholjfhbaaGreatPkAA
import Derived.Test.YtgokmkholjfhbaaGreatPkAJ
set_option linter.unusedVariables false
set_option linter.unusedSimpArgs false
namespace Go.Proofs.YtgokmkholjfhbaaGreat.Pf
open Go.RowKit
attribute [local go_sem ↓] Go.wp_at_zero Go.wp_at_succ
theorem rbit_any (a i : Nat) (w : World) (ha : a < 4294967296) (hi : i ≤ 31) :
  Calls Tryz.prog 69 #[.int .u32 a, .int .i64 i] w fun e w' => e = .returned (.int .i64 (tb a i : Int)) ∧ w' = w := by
 have h0 : 0 ≤ (a : Int) / 2 ^ (31 - i) := by rw [show (a : Int) / 2 ^ (31 - i) = ((a / 2 ^ (31 - i) : Nat) : Int) by simp]; exact Int.natCast_nonneg _
 have h1 : (a : Int) / 2 ^ (31 - i) ≤ a := Int.ediv_le_self _ (by omega)
 go_enter Tryz.func69, Tryz.ntmps69
 go_wp2
 go_ret
 exact ⟨ret_int (by rw [← bit_int a i]), rfl⟩
theorem rcheck_any (a : Nat) (n : Int) (w : World) (ha : a < 4294967296) :
  Calls Tryz.prog 55 #[.agg #[.int .u32 a, .int .i64 n]] w fun e w' => e = .returned (.int .i64 (chk a n)) ∧ Below w.heap.size w w' := by
 by_cases hn : n < 0 ∨ 32 < n
 ·rw [chk_out a n hn]
  by_cases h1 : n < 0
  ·have d1 : decide (n < 0) = true := decide_eq_true h1
   go_enter Tryz.func55, Tryz.ntmps55
   go_wp2
   go_ret
   exact ⟨rfl, belA⟩
  ·have d1 : decide (n < 0) = false := decide_eq_false h1
   have h2 : 32 < n := by omega
   have d2 : decide (32 < n) = true := decide_eq_true h2
   go_enter Tryz.func55, Tryz.ntmps55
   go_wp2
   go_ret
   exact ⟨rfl, belA⟩
 ·obtain ⟨m, rfl⟩ : ∃ m : Nat, n = (m : Int) := ⟨n.toNat, by omega⟩
  have hm : m ≤ 32 := by omega
  have d1 : decide ((m : Int) < 0) = false := decide_eq_false (by omega)
  have d2 : decide ((32 : Int) < m) = false := decide_eq_false (by omega)
  clear hn
  go_enter Tryz.func55, Tryz.ntmps55
  go_wp2
  go_loop [3] (fun i => ∃ k : Nat, m ≤ k ∧ k ≤ 32 ∧ i = .int .i64 k ∧ a % bk m = a % bk k) (fun i => 32 - (intOf i).toNat)
  case atStart => exact ⟨m, Nat.le_refl _, hm, rfl, rfl⟩
  case round =>
   obtain ⟨k, hmk, hk, rfl, hmod⟩ := hrel
   have HM : Hid (a % bk m = a % bk k) := hmod
   clear hmod
   by_cases hlt : k < 32
   ·have hst : Hid (_) := mod_step a k hlt
    have htl := tb_lt a k
    by_cases ht : tb a k = 1
    ·have ht' : (tb a k : Int) = 1 := by omega
     have hne : Hid (chk a m = 21) := chk_bits a m hm (by rw [HM.out, hst.out, ht]; have := bk_pos (k + 1); omega)
     go_wp2_with (go_at_call 69; refine (rbit_any a k _ ha (by omega)).mono ?_; rintro e w' ⟨rfl, hw⟩; obtain rfl := hw.symm; clear hw)
     go_ret
     exact ⟨ret_int hne.out.symm, belA⟩
    ·have ht' : ¬ (tb a k : Int) = 1 := by omega
     have ht0 : Hid (tb a k = 0) := (show tb a k = 0 by omega)
     go_wp2_with (go_at_call 69; refine (rbit_any a k _ ha (by omega)).mono ?_; rintro e w' ⟨rfl, hw⟩; obtain rfl := hw.symm; clear hw)
     go_round
     case rel => exact ⟨k + 1, by omega, by omega, by go_num, by rw [HM.out, hst.out, ht0.out]; omega⟩
     case measure => simp [intOf]; omega
   ·obtain rfl : k = 32 := by omega
    have hz : Hid (chk a m = 0) := chk_in a m hm (by rw [HM.out, bk_32]; omega)
    go_wp2
    go_ret
    exact ⟨ret_int hz.out.symm, belA⟩
theorem ct_apart (a x m k : Nat) (hk : k < m) (hm : m ≤ 32) (hc : ct a k = ct x k) (ht : tb a k ≠ tb x k) : ct x m ≠ a := by
 intro e
 have h1 : ct a (k + 1) = ct x (k + 1) := by rw [← e]; exact ct_ct x (k + 1) m (by omega)
 rw [ct_step a k (by omega), ct_step x k (by omega), hc] at h1
 have h2 : bk (k + 1) * tb a k = bk (k + 1) * tb x k := by omega
 exact ht (Nat.eq_of_mul_eq_mul_left (bk_pos (k + 1)) h2)
theorem ct_alike (a x k : Nat) (hk : k < 32) (hc : ct a k = ct x k) (ht : tb a k = tb x k) : ct a (k + 1) = ct x (k + 1) := by
 rw [ct_step a k hk, ct_step x k hk, hc, ht]
attribute [local go_sem ↓] Go.wp_at_zero Go.wp_at_succ
set_option maxHeartbeats 1000000 in
theorem rhas_any (a : Nat) (n : Int) (x : Nat) (w : World) (ha : a < 4294967296) (hx : x < 4294967296) :
  Calls Tryz.prog 72 #[.agg #[.int .u32 a, .int .i64 n], .int .u32 x] w fun e w' => e = .returned (.bool (hasB a n x)) ∧ Below w.heap.size w w' := by
 by_cases h : chk a n = 0
 ·obtain ⟨m, rfl, hn, h0⟩ := chk_ok h
  have HH : Hid (hasB a (m : Int) x = decide (ct x m = a)) := hasB_in h
  have h00 : Hid (ct a m = a) := ct_self a m h0
  clear h0
  go_enter Tryz.func72, Tryz.ntmps72
  go_wp2_with (go_at_call 55; refine (rcheck_any a m _ ha).mono ?_; rintro e w1 ⟨rfl, hb1⟩; obtain ⟨hc1, hf1⟩ := bcell hb1; have hz1 := hb1.size; (try simp at hz1); (try (have hl10 : w.heap.size < w1.heap.size := (by omega))); (try (have hl11 : w.heap.size + 1 < w1.heap.size := (by omega))); (try (have hl12 : w.heap.size + 1 + 1 < w1.heap.size := (by omega))); (try (have hl13 : w.heap.size + 1 + 1 + 1 < w1.heap.size := (by omega))))
  have k0 : w1.cell? ⟨w.heap.size, 0, none⟩ = some (.int .u32 a) := by rw [hc1 _ _ (by first | omega | (simp <;> omega))]; simp [go_sem]
  have k1 : w1.cell? ⟨w.heap.size, 1, none⟩ = some (.int .i64 m) := by rw [hc1 _ _ (by first | omega | (simp <;> omega))]; simp [go_sem]
  have hbw : Below w.heap.size w w1 := belA
  clear hc1 hf1 hb1
  go_loop [5] (fun i => ∃ k : Nat, k ≤ m ∧ i = .int .i64 k ∧ ct a k = ct x k) (fun i => m - (intOf i).toNat)
  case atStart => exact ⟨0, Nat.zero_le _, rfl, by rw [ct_zero a ha, ct_zero x hx]⟩
  case round =>
   obtain ⟨k, hk, rfl, hcc⟩ := hrel
   have HC : Hid (ct a k = ct x k) := hcc
   clear hcc
   by_cases hlt : k < m
   ·have t1 := tb_lt a k
    have t2 := tb_lt x k
    by_cases ht : tb a k = tb x k
    ·have HT : Hid (tb a k = tb x k) := ht
     have ht' : ((tb a k : Int) != (tb x k : Int)) = false := by rw [ht]; simp
     clear ht
     go_wp2_with (go_at_call 69; refine (rbit_any _ k _ ?_ ?_).mono ?_; assumption; omega; rintro e w' ⟨rfl, hw⟩; obtain rfl := hw.symm; clear hw)
     go_round
     case rel => exact ⟨k + 1, by omega, by go_num, ct_alike a x k (by omega) HC.out HT.out⟩
     case measure => simp [intOf]; omega
    ·have ht' : ((tb a k : Int) != (tb x k : Int)) = true := by simp; omega
     have HT : Hid (¬ tb a k = tb x k) := ht
     clear ht
     go_wp2_with (go_at_call 69; refine (rbit_any _ k _ ?_ ?_).mono ?_; assumption; omega; rintro e w' ⟨rfl, hw⟩; obtain rfl := hw.symm; clear hw)
     go_ret
     exact ⟨ret_same (by rw [HH.out]; exact (decide_eq_false (ct_apart a x m k hlt hn HC.out HT.out)).symm), hbw⟩
   ·obtain rfl : k = m := by omega
    go_wp2
    go_ret
    exact ⟨ret_same (by rw [HH.out]; exact (decide_eq_true (by rw [← HC.out, h00.out])).symm), hbw⟩
 ·rw [hasB_no h]
  have h' : (chk a n != 0) = true := by simpa using h
  go_enter Tryz.func72, Tryz.ntmps72
  go_wp2_with (go_at_call 55; refine (rcheck_any a n _ ha).mono ?_; rintro e w1 ⟨rfl, hb1⟩; obtain ⟨hc1, hf1⟩ := bcell hb1; have hz1 := hb1.size; (try simp at hz1); (try (have hl10 : w.heap.size < w1.heap.size := (by omega))); (try (have hl11 : w.heap.size + 1 < w1.heap.size := (by omega))); (try (have hl12 : w.heap.size + 1 + 1 < w1.heap.size := (by omega))); (try (have hl13 : w.heap.size + 1 + 1 + 1 < w1.heap.size := (by omega))))
  go_ret
  exact ⟨rfl, belA⟩
end Go.Proofs.YtgokmkholjfhbaaGreat.Pf

namespace Go.Proofs.YtgokmkholjfhbaaGreat
open Go.RowKit
theorem rends (a b : Nat) (w : World) : Calls Tryz.prog 56 #[.agg #[.int .u16 a, .int .u16 b]] w fun e w' => e = .returned (.int .i64 (errS a b)) ∧ Below w.heap.size w w' := by
 by_cases h : b < a
 ·rw [show errS a b = 30 from if_pos h]
  have h' : (b : Int) < (a : Int) := by omega
  clear h
  go_enter Tryz.func56, Tryz.ntmps56
  go_wp2
  go_ret
  exact ⟨rfl, belA⟩
 ·rw [show errS a b = 0 from if_neg h]
  have h' : ¬ (b : Int) < (a : Int) := by omega
  clear h
  go_enter Tryz.func56, Tryz.ntmps56
  go_wp2
  go_ret
  exact ⟨rfl, belA⟩
theorem zeroK_more {l r : List Int} {k : Nat} (h : zeroK l k) : zeroK (l ++ r) k := fun j hj => by
 have := h j hj
 rw [List.getElem?_append_left (List.getElem?_eq_some_iff.1 this).1]; exact this
theorem cells5 {w : World} {b : Nat} {v0 v1 v2 v3 v4 : Value} {t : TypeId} (h : w.heap[b]? = some (.cells #[v0, v1, v2, v3, v4] t)) : w.cell? ⟨b, 0, none⟩ = some v0 ∧ w.cell? ⟨b, 1, none⟩ = some v1 ∧ w.cell? ⟨b, 2, none⟩ = some v2 ∧ w.cell? ⟨b, 3, none⟩ = some v3 ∧ w.cell? ⟨b, 4, none⟩ = some v4 :=
 ⟨blk_cell h rfl, blk_cell h rfl, blk_cell h rfl, blk_cell h rfl, blk_cell h rfl⟩
set_option maxRecDepth 20000 in
set_option maxHeartbeats 4000000 in
theorem rcheckR (R : Ru) (w : World) (b : BdR R) :
  Calls Tryz.prog 39 #[.agg #[.int .i64 R.i, .int .u32 R.s, .int .i64 R.sl, .int .u32 R.d, .int .i64 R.dl, .int .u16 R.p.1, .int .u16 R.p.2, .int .u16 R.q.1, .int .u16 R.q.2, .int .u8 R.m.1, .int .u8 R.m.2, .int .i64 R.act]] w fun e w' => e = .returned (.tuple #[.int .i64 (errs R).1, .int .i64 (errs R).2]) ∧ Below w.heap.size w w' := by
 obtain ⟨b1, b2, b3, b4, b5, b6, b7, b8, _⟩ := b
 have k1 := fun W => Pf.rcheck_any R.s R.sl W b1
 have k2 := fun W => Pf.rcheck_any R.d R.dl W b2
 have k3 := fun W => rends R.p.1 R.p.2 W
 have k4 := fun W => rends R.q.1 R.q.2 W
 have k5 := fun W => rcheckM R.m.1 R.m.2 W b7 b8
 clear b1 b2 b3 b4 b5 b6 b7 b8
 have HR := blk_new w (.cells #[.int .i64 R.i, .int .u32 R.s, .int .i64 R.sl, .int .u32 R.d, .int .i64 R.dl, .int .u16 R.p.1, .int .u16 R.p.2, .int .u16 R.q.1, .int .u16 R.q.2, .int .u8 R.m.1, .int .u8 R.m.2, .int .i64 R.act] 64)
 have HW : Hid (Below w.heap.size w (w.alloc (.cells #[.int .i64 R.i, .int .u32 R.s, .int .i64 R.sl, .int .u32 R.d, .int .i64 R.dl, .int .u16 R.p.1, .int .u16 R.p.2, .int .u16 R.q.1, .int .u16 R.q.2, .int .u8 R.m.1, .int .u8 R.m.2, .int .i64 R.act] 64))) := (Below.refl _ _).alloc (Nat.le_refl _) _
 by_cases hi : 1 ≤ R.i ∧ R.i ≤ 999999
 ·have HE : Hid (errs R = firstE [Pf.chk R.s R.sl, Pf.chk R.d R.dl, errS R.p.1 R.p.2, errS R.q.1 R.q.2, chk R.m.1 R.m.2, errA R.act] 2) := by
   show _ = _
   unfold errs
   rw [show errI R.i = 0 from if_pos hi]
   rfl
  obtain ⟨hi1, hi2⟩ := hi
  generalize errs R = V at *
  generalize Pf.chk R.s R.sl = e1 at *
  generalize Pf.chk R.d R.dl = e2 at *
  generalize errS R.p.1 R.p.2 = e3 at *
  generalize errS R.q.1 R.q.2 = e4 at *
  generalize chk R.m.1 R.m.2 = e5 at *
  go_enter Tryz.func39, Tryz.ntmps39
  go_upto_region 3 with (fail)
  generalize w.alloc (.cells #[.int .i64 R.i, .int .u32 R.s, .int .i64 R.sl, .int .u32 R.d, .int .i64 R.dl, .int .u16 R.p.1, .int .u16 R.p.2, .int .u16 R.q.1, .int .u16 R.q.2, .int .u8 R.m.1, .int .u8 R.m.2, .int .i64 R.act] 64) = W0 at *
  go_cut [4] (fun s wx => ∃ g : Nat, s = .slice (some ⟨g, 0, none⟩) 5 5 ∧ Hid (wx.heap[g]? = some (.cells #[.int .i64 e1, .int .i64 e2, .int .i64 e3, .int .i64 e4, .int .i64 e5] 29)) ∧ Hid (Below W0.heap.size W0 wx))
  case first =>
   obtain ⟨c0, c1, c2, c3, c4, c5, c6, c7, c8, c9, c10, c11⟩ := blk12 HR
   refine wp_region_held_drew (S := fun w' => Below W0.heap.size W0 w') (by kernel_rfl) (Below.drew (Below.refl _ _)) (fun hS0 => ?_)
   show wpAnyH _ _ _ _ _ 17 _ _ _
   refine wpTk (i := 0) (v := .pointer (some ⟨w.heap.size, 1, none⟩)) hS0 ?_
   simp only [nrm]
   refine wpLd (i := 1) rfl (yieldsIf_load_mid rfl 58 (.tmp 14) rfl w.heap.size 1 rfl [.int .u32 R.s, .int .i64 R.sl] _ (fun w' hw' => range2 (cell_on1 hw' c1) (cell_on1 hw' c2)) Tryz.underlying58 rfl (by kernel_rfl)) hS0 ?_
   simp only [nrm]
   refine wpTk (i := 3) (v := .pointer (some ⟨w.heap.size, 3, none⟩)) hS0 ?_
   simp only [nrm]
   refine wpLd (i := 4) rfl (yieldsIf_load_mid rfl 58 (.tmp 17) rfl w.heap.size 3 rfl [.int .u32 R.d, .int .i64 R.dl] _ (fun w' hw' => range2 (cell_on1 hw' c3) (cell_on1 hw' c4)) Tryz.underlying58 rfl (by kernel_rfl)) hS0 ?_
   simp only [nrm]
   refine wpTk (i := 6) (v := .pointer (some ⟨w.heap.size, 5, none⟩)) hS0 ?_
   simp only [nrm]
   refine wpLd (i := 7) rfl (yieldsIf_load_mid rfl 60 (.tmp 20) rfl w.heap.size 5 rfl [.int .u16 R.p.1, .int .u16 R.p.2] _ (fun w' hw' => range2 (cell_on1 hw' c5) (cell_on1 hw' c6)) Tryz.underlying60 rfl (by kernel_rfl)) hS0 ?_
   simp only [nrm]
   refine wpTk (i := 9) (v := .pointer (some ⟨w.heap.size, 7, none⟩)) hS0 ?_
   simp only [nrm]
   refine wpLd (i := 10) rfl (yieldsIf_load_mid rfl 60 (.tmp 23) rfl w.heap.size 7 rfl [.int .u16 R.q.1, .int .u16 R.q.2] _ (fun w' hw' => range2 (cell_on1 hw' c7) (cell_on1 hw' c8)) Tryz.underlying60 rfl (by kernel_rfl)) hS0 ?_
   simp only [nrm]
   refine wpTk (i := 12) (v := .pointer (some ⟨w.heap.size, 9, none⟩)) hS0 ?_
   simp only [nrm]
   refine wpLd (i := 13) rfl (yieldsIf_load_mid rfl 62 (.tmp 26) rfl w.heap.size 9 rfl [.int .u8 R.m.1, .int .u8 R.m.2] _ (fun w' hw' => range2 (cell_on1 hw' c9) (cell_on1 hw' c10)) Tryz.underlying62 rfl (by kernel_rfl)) hS0 ?_
   simp only [nrm]
   refine wpO 2 (fun K' hK' => ?_)
   go_wp2_with (go_at_call 55; refine (k1 _).mono ?_; rintro e w1 ⟨rfl, hw1⟩)
   have Sw1 : Below W0.heap.size W0 w1 := (hS0).trans (hw1.mono (hS0).size)
   refine ⟨Sw1, ?_⟩
   refine wpO 5 (fun K' hK' => ?_)
   go_wp2_with (go_at_call 55; refine (k2 _).mono ?_; rintro e w2 ⟨rfl, hw2⟩)
   have Sw2 : Below W0.heap.size W0 w2 := (Sw1).trans (hw2.mono (Sw1).size)
   refine ⟨Sw2, ?_⟩
   refine wpO 8 (fun K' hK' => ?_)
   go_wp2_with (go_at_call 56; refine (k3 _).mono ?_; rintro e w3 ⟨rfl, hw3⟩)
   have Sw3 : Below W0.heap.size W0 w3 := (Sw2).trans (hw3.mono (Sw2).size)
   refine ⟨Sw3, ?_⟩
   refine wpO 11 (fun K' hK' => ?_)
   go_wp2_with (go_at_call 56; refine (k4 _).mono ?_; rintro e w4 ⟨rfl, hw4⟩)
   have Sw4 : Below W0.heap.size W0 w4 := (Sw3).trans (hw4.mono (Sw3).size)
   refine ⟨Sw4, ?_⟩
   refine wpO 14 (fun K' hK' => ?_)
   go_wp2_with (go_at_call 57; refine (k5 _).mono ?_; rintro e w5 ⟨rfl, hw5⟩)
   have Sw5 : Below W0.heap.size W0 w5 := (Sw4).trans (hw5.mono (Sw4).size)
   refine ⟨Sw5, ?_⟩
   refine wpO 15 (fun K' hK' => ?_)
   go_wp2_with (fail)
   have Sa : Below W0.heap.size W0 (w5.alloc (.cells #[.int .i64 e1, .int .i64 e2, .int .i64 e3, .int .i64 e4, .int .i64 e5] 29)) := Sw5.alloc Sw5.size _
   refine ⟨Sa, ?_⟩
   refine wpAnyH_take (i := 16) rfl (by kernel_rfl) (by kernel_rfl) (by kernel_rfl) (fun _ _ _ h => h) (.inl ⟨rfl, fun _ _ => rfl⟩) Sa ?_
   simp only [nrm]
   refine wpAnyH_done (by kernel_rfl) ?_ _
   have HSa : Hid (Below W0.heap.size W0 (w5.alloc (.cells #[.int .i64 e1, .int .i64 e2, .int .i64 e3, .int .i64 e4, .int .i64 e5] 29))) := Sa
   go_wp2_with (fail)
   go_meet
   case rel => exact ⟨_, rfl, blk_new w5 _, HSa.out⟩
  case rest =>
   obtain ⟨g, rfl, HG, HB⟩ := hcut
   obtain ⟨d0, d1, d2, d3, d4⟩ := cells5 HG.out
   obtain ⟨c0, c1, c2, c3, c4, c5, c6, c7, c8, c9, c10, c11⟩ := blk12 (blk_on HR HB.out)
   clear c0 c1 c2 c3 c4 c5 c6 c7 c8 c9 c10
   have HBw : Hid (Below w.heap.size w wc) := HW.out.trans (HB.out.mono HW.out.size)
   clear HR k1 k2 k3 k4 k5
   go_wp2_with (fail)
   go_loopw [5] (fun iv wr => ∃ k : Nat, k ≤ 5 ∧ iv = .int .i64 k ∧ Hid (zeroK [e1, e2, e3, e4, e5] k) ∧ wr = wc) (fun iv _ => 5 - (intOf iv).toNat)
   case atStart => exact ⟨0, Nat.zero_le _, rfl, fun j hj => by omega, rfl⟩
   case round =>
    obtain ⟨k, hk, rfl, hz, hwr⟩ := hrel
    subst hwr
    obtain rfl | rfl | rfl | rfl | rfl | rfl : k = 0 ∨ k = 1 ∨ k = 2 ∨ k = 3 ∨ k = 4 ∨ k = 5 := by omega
    ·by_cases h : e1 = 0
     ·have hz' : Hid (zeroK [e1, e2, e3, e4, e5] 1) := zeroK_succ hz.out (by rw [h]; rfl)
      rw [h] at d0
      go_wp2_with (fail)
      go_roundw
      case rel => exact ⟨1, by omega, rfl, hz'.out, trivial⟩
      case measure => simp [intOf]
     ·have HF : Hid ((e1, 2) = V) := by show _ = _; rw [HE.out]; exact (firstE_here (l := [e1, e2, e3, e4, e5, errA R.act]) 2 (zeroK_more hz.out) (k := 0) rfl h).symm
      go_wp2_with (fail)
      exact bodyPost_ret (v := .tuple #[.int .i64 e1, .int .i64 2]) (by simp [results, Tryz.results39, go_sem]) rfl ⟨ret_two HF.out, HBw.out⟩
    ·by_cases h : e2 = 0
     ·have hz' : Hid (zeroK [e1, e2, e3, e4, e5] 2) := zeroK_succ hz.out (by rw [h]; rfl)
      rw [h] at d1
      go_wp2_with (fail)
      go_roundw
      case rel => exact ⟨2, by omega, rfl, hz'.out, trivial⟩
      case measure => simp [intOf]
     ·have HF : Hid ((e2, 3) = V) := by show _ = _; rw [HE.out]; exact (firstE_here (l := [e1, e2, e3, e4, e5, errA R.act]) 2 (zeroK_more hz.out) (k := 1) rfl h).symm
      go_wp2_with (fail)
      exact bodyPost_ret (v := .tuple #[.int .i64 e2, .int .i64 3]) (by simp [results, Tryz.results39, go_sem]) rfl ⟨ret_two HF.out, HBw.out⟩
    ·by_cases h : e3 = 0
     ·have hz' : Hid (zeroK [e1, e2, e3, e4, e5] 3) := zeroK_succ hz.out (by rw [h]; rfl)
      rw [h] at d2
      go_wp2_with (fail)
      go_roundw
      case rel => exact ⟨3, by omega, rfl, hz'.out, trivial⟩
      case measure => simp [intOf]
     ·have HF : Hid ((e3, 4) = V) := by show _ = _; rw [HE.out]; exact (firstE_here (l := [e1, e2, e3, e4, e5, errA R.act]) 2 (zeroK_more hz.out) (k := 2) rfl h).symm
      go_wp2_with (fail)
      exact bodyPost_ret (v := .tuple #[.int .i64 e3, .int .i64 4]) (by simp [results, Tryz.results39, go_sem]) rfl ⟨ret_two HF.out, HBw.out⟩
    ·by_cases h : e4 = 0
     ·have hz' : Hid (zeroK [e1, e2, e3, e4, e5] 4) := zeroK_succ hz.out (by rw [h]; rfl)
      rw [h] at d3
      go_wp2_with (fail)
      go_roundw
      case rel => exact ⟨4, by omega, rfl, hz'.out, trivial⟩
      case measure => simp [intOf]
     ·have HF : Hid ((e4, 5) = V) := by show _ = _; rw [HE.out]; exact (firstE_here (l := [e1, e2, e3, e4, e5, errA R.act]) 2 (zeroK_more hz.out) (k := 3) rfl h).symm
      go_wp2_with (fail)
      exact bodyPost_ret (v := .tuple #[.int .i64 e4, .int .i64 5]) (by simp [results, Tryz.results39, go_sem]) rfl ⟨ret_two HF.out, HBw.out⟩
    ·by_cases h : e5 = 0
     ·have hz' : Hid (zeroK [e1, e2, e3, e4, e5] 5) := zeroK_succ hz.out (by rw [h]; rfl)
      rw [h] at d4
      go_wp2_with (fail)
      go_roundw
      case rel => exact ⟨5, by omega, rfl, hz'.out, trivial⟩
      case measure => simp [intOf]
     ·have HF : Hid ((e5, 6) = V) := by show _ = _; rw [HE.out]; exact (firstE_here (l := [e1, e2, e3, e4, e5, errA R.act]) 2 (zeroK_more hz.out) (k := 4) rfl h).symm
      go_wp2_with (fail)
      exact bodyPost_ret (v := .tuple #[.int .i64 e5, .int .i64 6]) (by simp [results, Tryz.results39, go_sem]) rfl ⟨ret_two HF.out, HBw.out⟩
    ·by_cases ha : 1 ≤ R.act ∧ R.act ≤ 4
     ·have HF : Hid ((0, 0) = V) := by show _ = _; rw [HE.out]; exact (firstE_none (l := [e1, e2, e3, e4, e5, errA R.act]) 2 (zeroK_succ (l := [e1, e2, e3, e4, e5, errA R.act]) (k := 5) (zeroK_more hz.out) (by rw [show errA R.act = 0 from if_pos ha]; rfl))).symm
      obtain ⟨ha1, ha2⟩ := ha
      go_wp2_with (fail)
      exact bodyPost_ret (v := .tuple #[.int .i64 0, .int .i64 0]) (by simp [results, Tryz.results39, go_sem]) rfl ⟨ret_two HF.out, HBw.out⟩
     ·have HF : Hid ((81, 7) = V) := by
       show _ = _; rw [HE.out]
       have he : errA R.act = 81 := if_neg ha
       exact (firstE_here (l := [e1, e2, e3, e4, e5, errA R.act]) 2 (zeroK_more hz.out) (k := 5) (by rw [he]; rfl) (by decide)).symm
      by_cases ha1 : R.act < 1
      ·go_wp2_with (fail)
       exact bodyPost_ret (v := .tuple #[.int .i64 81, .int .i64 7]) (by simp [results, Tryz.results39, go_sem]) rfl ⟨ret_two HF.out, HBw.out⟩
      ·have ha2 : 4 < R.act := by omega
       go_wp2_with (fail)
       exact bodyPost_ret (v := .tuple #[.int .i64 81, .int .i64 7]) (by simp [results, Tryz.results39, go_sem]) rfl ⟨ret_two HF.out, HBw.out⟩
 ·have he : errs R = (80, 1) := by
   unfold errs
   rw [show errI R.i = 80 from if_neg hi]
   rfl
  rw [he]
  have hbw := HW.out
  by_cases h1 : R.i < 1
  ·clear hi
   go_enter Tryz.func39, Tryz.ntmps39
   go_wp2_with (fail)
   exact bodyPost_ret (v := .tuple #[.int .i64 80, .int .i64 1]) (by simp [results, Tryz.results39, go_sem]) rfl ⟨rfl, HW.out⟩
  ·have h2 : 999999 < R.i := by omega
   clear hi
   go_enter Tryz.func39, Tryz.ntmps39
   go_wp2_with (fail)
   exact bodyPost_ret (v := .tuple #[.int .i64 80, .int .i64 1]) (by simp [results, Tryz.results39, go_sem]) rfl ⟨rfl, HW.out⟩
theorem rmayR (R : Ru) (w : World) (b : BdR R) :
  Calls Tryz.prog 71 #[.agg #[.int .i64 R.i, .int .u32 R.s, .int .i64 R.sl, .int .u32 R.d, .int .i64 R.dl, .int .u16 R.p.1, .int .u16 R.p.2, .int .u16 R.q.1, .int .u16 R.q.2, .int .u8 R.m.1, .int .u8 R.m.2, .int .i64 R.act]] w fun e w' => e = .returned (.bool (okR R)) ∧ Below w.heap.size w w' := by
 have hC := fun W => rcheckR R W b
 cases ho : okR R
 ·have hn := errs_no ho
  have hn' : ((errs R).1 == 0) = false := by simpa using hn
  generalize (errs R).1 = c at *
  generalize (errs R).2 = d at *
  clear ho b
  go_enter Tryz.func71, Tryz.ntmps71
  go_wp2_with (fail)
  refine (hC _).mono ?_
  rintro e w1 ⟨rfl, hb1⟩
  have GR : Hid (w1.heap[w.heap.size]? = some (.cells #[.int .i64 R.i, .int .u32 R.s, .int .i64 R.sl, .int .u32 R.d, .int .i64 R.dl, .int .u16 R.p.1, .int .u16 R.p.2, .int .u16 R.q.1, .int .u16 R.q.2, .int .u8 R.m.1, .int .u8 R.m.2, .int .i64 R.act] 64)) := blk_on (blk_new w (.cells #[.int .i64 R.i, .int .u32 R.s, .int .i64 R.sl, .int .u32 R.d, .int .i64 R.dl, .int .u16 R.p.1, .int .u16 R.p.2, .int .u16 R.q.1, .int .u16 R.q.2, .int .u8 R.m.1, .int .u8 R.m.2, .int .i64 R.act] 64)) hb1
  have hbl1 : Hid (Below w.heap.size w w1) := bel_step (Below.refl _ _) (bel_a1 _ _) hb1
  clear hb1
  have HR := GR
  clear GR
  have lR := blk_lt HR.out
  have nR : ¬ w.heap.size = w1.heap.size := by omega
  go_wp2_with (fail)
  go_ret
  exact ⟨rfl, hbl1.out⟩
 ·rw [errs_ok ho] at hC
  clear ho b
  go_enter Tryz.func71, Tryz.ntmps71
  go_wp2_with (fail)
  refine (hC _).mono ?_
  rintro e w1 ⟨rfl, hb1⟩
  have GR : Hid (w1.heap[w.heap.size]? = some (.cells #[.int .i64 R.i, .int .u32 R.s, .int .i64 R.sl, .int .u32 R.d, .int .i64 R.dl, .int .u16 R.p.1, .int .u16 R.p.2, .int .u16 R.q.1, .int .u16 R.q.2, .int .u8 R.m.1, .int .u8 R.m.2, .int .i64 R.act] 64)) := blk_on (blk_new w (.cells #[.int .i64 R.i, .int .u32 R.s, .int .i64 R.sl, .int .u32 R.d, .int .i64 R.dl, .int .u16 R.p.1, .int .u16 R.p.2, .int .u16 R.q.1, .int .u16 R.q.2, .int .u8 R.m.1, .int .u8 R.m.2, .int .i64 R.act] 64)) hb1
  have hbl1 : Hid (Below w.heap.size w w1) := bel_step (Below.refl _ _) (bel_a1 _ _) hb1
  clear hb1
  have HR := GR
  clear GR
  have lR := blk_lt HR.out
  have nR : ¬ w.heap.size = w1.heap.size := by omega
  go_wp2_with (fail)
  go_ret
  exact ⟨rfl, hbl1.out⟩
end Go.Proofs.YtgokmkholjfhbaaGreat
