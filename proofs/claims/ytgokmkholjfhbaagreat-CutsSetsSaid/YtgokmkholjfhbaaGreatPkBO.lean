/-
  PkBO: CtX CqTe CqRk, one behind the other (tools/pack.py).
-/
import Derived.Test.YtgokmkholjfhbaaGreatPkBN
import Derived.Test.YtgokmkholjfhbaaGreatPkAE
import Derived.Test.YtgokmkholjfhbaaGreatPkBK
set_option linter.unusedVariables false
set_option linter.unusedSimpArgs false
namespace Go.Proofs.YtgokmkholjfhbaaGreat
open Go.RowKit
theorem blk4 {w : World} {B : Nat} {v0 v1 v2 v3 : Value} {t : TypeId} {fr : Nat × Nat} (h : w.heap[B]? = some (.cells #[v0, v1, v2, v3] t fr)) : w.cell? ⟨B, 0, none⟩ = some v0 ∧ w.cell? ⟨B, 1, none⟩ = some v1 ∧ w.cell? ⟨B, 2, none⟩ = some v2 ∧ w.cell? ⟨B, 3, none⟩ = some v3 := ⟨blk_cell h rfl, blk_cell h rfl, blk_cell h rfl, blk_cell h rfl⟩
theorem blk7 {w : World} {B : Nat} {v0 v1 v2 v3 v4 v5 v6 : Value} {t : TypeId} {fr : Nat × Nat} (h : w.heap[B]? = some (.cells #[v0, v1, v2, v3, v4, v5, v6] t fr)) : w.cell? ⟨B, 0, none⟩ = some v0 ∧ w.cell? ⟨B, 1, none⟩ = some v1 ∧ w.cell? ⟨B, 2, none⟩ = some v2 ∧ w.cell? ⟨B, 3, none⟩ = some v3 ∧ w.cell? ⟨B, 4, none⟩ = some v4 ∧ w.cell? ⟨B, 5, none⟩ = some v5 ∧ w.cell? ⟨B, 6, none⟩ = some v6 := ⟨blk_cell h rfl, blk_cell h rfl, blk_cell h rfl, blk_cell h rfl, blk_cell h rfl, blk_cell h rfl, blk_cell h rfl⟩
theorem srcU_form {w : World} {u : Value} {l : List Ru} (h : SrcU w u l) : ∃ ad cap, u = .slice ad l.length cap := by
 obtain ⟨ad, cap, e, _⟩ := h
 exact ⟨ad, cap, e⟩
theorem sizeK (l : List Ru) (v : Value) (w : World) (hs : SrcU w v l) (hb : ∀ R ∈ l, BdR R) :
  Calls Tryz.prog 23 #[v] w fun e w' => e = .returned (.int .i64 0) ∧ Below w.heap.size w w' := by
 obtain ⟨ad, cap, rfl⟩ := srcU_form hs
 clear hs hb
 go_enter Tryz.func23, Tryz.ntmps23
 go_wp2_with (fail)
 go_ret
 exact ⟨rfl, Below.refl _ _⟩
theorem budgetC (c : Cf) (w : World) : Calls Tryz.prog 24 #[.agg #[.int .i64 c.m, .int .i64 c.a, .int .i64 c.p, .int .i64 c.g, .int .i64 c.t, .int .i64 c.b, .int .i64 c.d]] w fun e w' => e = .returned (.int .i64 0) ∧ Below w.heap.size w w' := by
 go_enter Tryz.func24, Tryz.ntmps24
 go_wp2_with (fail)
 go_ret
 exact ⟨rfl, (by first | exact Below.refl _ _ | exact (Below.refl _ _).alloc (Nat.le_refl _) _)⟩
set_option maxHeartbeats 2000000 in
theorem powerC (n : Nat) (hn : n ≤ 12) (w : World) : Calls Tryz.prog 21 #[.int .i64 n] w fun e w' => e = .returned (.int .i64 ((2 ^ n : Nat) : Int)) ∧ Below w.heap.size w w' := by
 obtain ⟨P, hP⟩ : ∃ P, P = 2 ^ n := ⟨_, rfl⟩
 rw [← hP]
 have HP : Hid (P = 2 ^ n) := hP
 clear hP
 go_enter Tryz.func21, Tryz.ntmps21
 go_wp2_with (fail)
 go_loopw [3, 4] (fun vp vi wr => ∃ (i q : Nat), i ≤ n ∧ vp = .int .i64 q ∧ vi = .int .i64 i ∧ Hid (q = 2 ^ i) ∧ q ≤ 4096 ∧ Hid (Below w.heap.size w wr)) (fun _ vi _ => n - (intOf vi).toNat)
 case atStart => exact ⟨0, 1, Nat.zero_le _, rfl, rfl, rfl, by decide, Below.refl _ _⟩
 case round =>
  obtain ⟨i, q, hi, rfl, rfl, HQ, hq, HB⟩ := hrel
  by_cases hlt : i < n
  ·have hlti : (i : Int) < (n : Int) := by omega
   have HQ2 : Hid (q * 2 = 2 ^ (i + 1)) := by show _ = _; rw [Nat.pow_succ, HQ.out]
   have hq2 : 2 * q ≤ 4096 := by
    have h1 : 2 ^ (i + 1) ≤ 2 ^ 12 := Nat.pow_le_pow_right (by decide) (by omega)
    have h2 := HQ2.out
    omega
   go_wp2_with (fail)
   go_roundw
   case rel => exact ⟨i + 1, 2 * q, by omega, by go_num, by go_num, (by show _ = _; rw [Nat.mul_comm]; exact HQ2.out), hq2, HB.out⟩
   case measure => simp [intOf]; omega
  ·obtain rfl : i = n := by omega
   have hni : ¬ (i : Int) < (i : Int) := by omega
   obtain rfl : q = P := HQ.out.trans HP.out.symm
   go_wp2_with (fail)
   go_ret
   exact ⟨rfl, HB.out⟩
set_option maxHeartbeats 8000000 in
set_option maxRecDepth 20000 in
theorem fitsC (c : Cf) (l : List Ru) (u : Value) (h : Hd) (vb : Bool) (vi va : Int) (K C n T : Nat) (w : World) (hu : ∃ ad cap, u = .slice ad l.length cap) (hc : okC c = true)
  (hK : K ≤ c.d.toNat) (hC : C ≤ (if K < c.d.toNat then c.b.toNat else l.length)) (hV : 1 ≤ C ∨ vb = false) (hl : l.length ≤ 64) (hn : 1 ≤ n) (hn2 : n ≤ 2 ^ (c.d.toNat + 2)) (hT : T ≤ n * l.length) :
  Calls Tryz.prog 10 #[.agg #[.int .i64 c.m, .int .i64 c.a, .int .i64 c.p, .int .i64 c.g, .int .i64 c.t, .int .i64 c.b, .int .i64 c.d], u, .agg #[.int .u32 h.s, .int .u32 h.d, .int .u16 h.p, .int .u16 h.q, .int .u8 h.r], .agg #[.bool vb, .int .i64 vi, .int .i64 va], .agg #[.int .i64 ((K : Int) + 1), .int .i64 C, .int .i64 K, .int .i64 0, .int .i64 0], .agg #[.int .i64 n, .int .i64 T, .int .i64 0, .int .i64 0]] w fun e w' => e = .returned (.bool true) ∧ Below w.heap.size w w' := by
 obtain ⟨ad, cap, hu⟩ := hu
 have hok := okC_bd hc
 have hPw : ∀ W, Calls Tryz.prog 21 #[.int .i64 (c.d + 2)] W fun e w' => e = .returned (.int .i64 ((2 ^ (c.d.toNat + 2) : Nat) : Int)) ∧ Below W.heap.size W w' := fun W => by
  have := powerC (c.d.toNat + 2) (by omega) W
  rw [show ((c.d.toNat + 2 : Nat) : Int) = c.d + 2 by omega] at this
  exact this
 have hp4 : 2 ^ (c.d.toNat + 2) ≤ 4096 := Nat.le_trans (Nat.pow_le_pow_right (by decide) (show c.d.toNat + 2 ≤ 12 by omega)) (by decide)
 generalize 2 ^ (c.d.toNat + 2) = Z at *
 generalize l.length = m at *
 subst hu
 have hd : c.d = (c.d.toNat : Int) := by omega
 have hb : c.b = (c.b.toNat : Int) := by omega
 have hTm : n * m ≤ 4096 * 64 := Nat.mul_le_mul (by omega) hl
 have hTi : (T : Int) ≤ (n : Int) * (m : Int) := by rw [← Int.natCast_mul]; exact Int.ofNat_le.2 hT
 have hTw : (n : Int) * (m : Int) = ((n * m : Nat) : Int) := by simp
 have hTb : (0 : Int) ≤ (n : Int) * (m : Int) ∧ (n : Int) * (m : Int) ≤ 262144 := by rw [hTw]; omega
 clear hTw
 generalize hD : c.d = D at *
 generalize hBb : c.b = bb at *
 generalize D.toNat = Dn at *
 generalize bb.toNat = bn at *
 have HD : Hid (D = (Dn : Int)) := hd
 have HBn : Hid (bb = (bn : Int)) := hb
 clear hc hd hb hD hBb
 obtain ⟨w0, hw0⟩ : ∃ w0, w0 = (((((w.alloc (.cells #[.int .i64 c.m, .int .i64 c.a, .int .i64 c.p, .int .i64 c.g, .int .i64 c.t, .int .i64 bb, .int .i64 D] 24)).alloc (.cells #[.int .u32 h.s, .int .u32 h.d, .int .u16 h.p, .int .u16 h.q, .int .u8 h.r] 28)).alloc (.cells #[.bool vb, .int .i64 vi, .int .i64 va] 36)).alloc (.cells #[.int .i64 ((K : Int) + 1), .int .i64 C, .int .i64 K, .int .i64 0, .int .i64 0] 38)).alloc (.cells #[.int .i64 n, .int .i64 T, .int .i64 0, .int .i64 0] 43)) := ⟨_, rfl⟩
 have HB0 : Hid (Below w.heap.size w w0) := by rw [hw0]; exact (Below.alloc (Below.alloc (Below.alloc (Below.alloc (Below.alloc (Below.refl _ _) (Nat.le_refl _) _) (by simp <;> omega) _) (by simp <;> omega) _) (by simp <;> omega) _) (by simp <;> omega) _)
 have Kc : w0.heap[w.heap.size]? = some (.cells #[.int .i64 c.m, .int .i64 c.a, .int .i64 c.p, .int .i64 c.g, .int .i64 c.t, .int .i64 bb, .int .i64 D] 24 (0, 0)) := by have := blk_alloc (blk_alloc (blk_alloc (blk_alloc (blk_new w (.cells #[.int .i64 c.m, .int .i64 c.a, .int .i64 c.p, .int .i64 c.g, .int .i64 c.t, .int .i64 bb, .int .i64 D] 24)) (.cells #[.int .u32 h.s, .int .u32 h.d, .int .u16 h.p, .int .u16 h.q, .int .u8 h.r] 28)) (.cells #[.bool vb, .int .i64 vi, .int .i64 va] 36)) (.cells #[.int .i64 ((K : Int) + 1), .int .i64 C, .int .i64 K, .int .i64 0, .int .i64 0] 38)) (.cells #[.int .i64 n, .int .i64 T, .int .i64 0, .int .i64 0] 43); rw [← hw0] at this; simpa using this
 have Kh : w0.heap[w.heap.size + 1]? = some (.cells #[.int .u32 h.s, .int .u32 h.d, .int .u16 h.p, .int .u16 h.q, .int .u8 h.r] 28 (0, 0)) := by have := blk_alloc (blk_alloc (blk_alloc (blk_new (w.alloc (.cells #[.int .i64 c.m, .int .i64 c.a, .int .i64 c.p, .int .i64 c.g, .int .i64 c.t, .int .i64 bb, .int .i64 D] 24)) (.cells #[.int .u32 h.s, .int .u32 h.d, .int .u16 h.p, .int .u16 h.q, .int .u8 h.r] 28)) (.cells #[.bool vb, .int .i64 vi, .int .i64 va] 36)) (.cells #[.int .i64 ((K : Int) + 1), .int .i64 C, .int .i64 K, .int .i64 0, .int .i64 0] 38)) (.cells #[.int .i64 n, .int .i64 T, .int .i64 0, .int .i64 0] 43); rw [← hw0] at this; simpa using this
 have Kv : w0.heap[w.heap.size + 1 + 1]? = some (.cells #[.bool vb, .int .i64 vi, .int .i64 va] 36 (0, 0)) := by have := blk_alloc (blk_alloc (blk_new ((w.alloc (.cells #[.int .i64 c.m, .int .i64 c.a, .int .i64 c.p, .int .i64 c.g, .int .i64 c.t, .int .i64 bb, .int .i64 D] 24)).alloc (.cells #[.int .u32 h.s, .int .u32 h.d, .int .u16 h.p, .int .u16 h.q, .int .u8 h.r] 28)) (.cells #[.bool vb, .int .i64 vi, .int .i64 va] 36)) (.cells #[.int .i64 ((K : Int) + 1), .int .i64 C, .int .i64 K, .int .i64 0, .int .i64 0] 38)) (.cells #[.int .i64 n, .int .i64 T, .int .i64 0, .int .i64 0] 43); rw [← hw0] at this; simpa using this
 have Ks : w0.heap[w.heap.size + 1 + 1 + 1]? = some (.cells #[.int .i64 ((K : Int) + 1), .int .i64 C, .int .i64 K, .int .i64 0, .int .i64 0] 38 (0, 0)) := by have := blk_alloc (blk_new (((w.alloc (.cells #[.int .i64 c.m, .int .i64 c.a, .int .i64 c.p, .int .i64 c.g, .int .i64 c.t, .int .i64 bb, .int .i64 D] 24)).alloc (.cells #[.int .u32 h.s, .int .u32 h.d, .int .u16 h.p, .int .u16 h.q, .int .u8 h.r] 28)).alloc (.cells #[.bool vb, .int .i64 vi, .int .i64 va] 36)) (.cells #[.int .i64 ((K : Int) + 1), .int .i64 C, .int .i64 K, .int .i64 0, .int .i64 0] 38)) (.cells #[.int .i64 n, .int .i64 T, .int .i64 0, .int .i64 0] 43); rw [← hw0] at this; simpa using this
 have Kt : w0.heap[w.heap.size + 1 + 1 + 1 + 1]? = some (.cells #[.int .i64 n, .int .i64 T, .int .i64 0, .int .i64 0] 43 (0, 0)) := by have := blk_new ((((w.alloc (.cells #[.int .i64 c.m, .int .i64 c.a, .int .i64 c.p, .int .i64 c.g, .int .i64 c.t, .int .i64 bb, .int .i64 D] 24)).alloc (.cells #[.int .u32 h.s, .int .u32 h.d, .int .u16 h.p, .int .u16 h.q, .int .u8 h.r] 28)).alloc (.cells #[.bool vb, .int .i64 vi, .int .i64 va] 36)).alloc (.cells #[.int .i64 ((K : Int) + 1), .int .i64 C, .int .i64 K, .int .i64 0, .int .i64 0] 38)) (.cells #[.int .i64 n, .int .i64 T, .int .i64 0, .int .i64 0] 43); rw [← hw0] at this; simpa using this
 have hw0s : (((((w.alloc (.cells #[.int .i64 c.m, .int .i64 c.a, .int .i64 c.p, .int .i64 c.g, .int .i64 c.t, .int .i64 bb, .int .i64 D] 24)).alloc (.cells #[.int .u32 h.s, .int .u32 h.d, .int .u16 h.p, .int .u16 h.q, .int .u8 h.r] 28)).alloc (.cells #[.bool vb, .int .i64 vi, .int .i64 va] 36)).alloc (.cells #[.int .i64 ((K : Int) + 1), .int .i64 C, .int .i64 K, .int .i64 0, .int .i64 0] 38)).alloc (.cells #[.int .i64 n, .int .i64 T, .int .i64 0, .int .i64 0] 43)) = w0 := hw0.symm
 have Hw0s : Hid _ := hw0s
 clear hw0 hw0s
 have Kc : Hid _ := Kc
 have Kh : Hid _ := Kh
 have Kv : Hid _ := Kv
 have Ks : Hid _ := Ks
 have Kt : Hid _ := Kt
 go_enter Tryz.func10, Tryz.ntmps10
 go_upto_region 1 with (fail)
 have hw0s := Hw0s.out
 try simp only [hw0s, World.size_alloc]
 clear hw0s Hw0s
 obtain ⟨Bt, hBt⟩ : ∃ B, B = w.heap.size + 1 + 1 + 1 + 1 := ⟨_, rfl⟩
 rw [← hBt] at Kt ⊢
 obtain ⟨Bs, hBs⟩ : ∃ B, B = w.heap.size + 1 + 1 + 1 := ⟨_, rfl⟩
 rw [← hBs] at Ks ⊢
 obtain ⟨Bv, hBv⟩ : ∃ B, B = w.heap.size + 1 + 1 := ⟨_, rfl⟩
 rw [← hBv] at Kv ⊢
 obtain ⟨Bh, hBh⟩ : ∃ B, B = w.heap.size + 1 := ⟨_, rfl⟩
 rw [← hBh] at Kh ⊢
 clear hBt hBs hBv hBh
 obtain ⟨z0, z1, z2, z3, z4⟩ := blk5 Kh.out
 obtain ⟨v0, v1, v2⟩ := blk3 Kv.out
 obtain ⟨s0, s1, s2, s3, s4⟩ := blk5 Ks.out
 obtain ⟨t0, t1, t2, t3⟩ := blk4 Kt.out
 have hd := HD.out
 have hb := HBn.out
 obtain ⟨q0, q1, q2, q3, q4, q5, q6⟩ := blk7 Kc.out
 have lc := blk_lt Kc.out
 have ltt := blk_lt Kt.out
 have k1 : (0 : Int) ≤ (K : Int) := by omega
 have k2 : (K : Int) ≤ D := by omega
 have k3 : D ≤ 10 ∧ 0 ≤ D := by omega
 have k4 : (0 : Int) ≤ (C : Int) := by omega
 have n1 : (1 : Int) ≤ (n : Int) := by omega
 have n2 : (n : Int) ≤ (Z : Int) := by omega
 have n3 : (0 : Int) ≤ (T : Int) := by omega
 have n4 : (Z : Int) ≤ 4096 := by omega
 have hbd : bb ≤ 16 ∧ 1 ≤ bb := by omega
 have hml : (m : Int) ≤ 64 := by omega
 clear Kc Kh Kv Ks Kt hTm hT hn hn2 hp4 hok
 by_cases hkd : K < Dn
 ·rw [if_pos hkd] at hC
  have kd : (K : Int) < D := by omega
  have c2 : (C : Int) ≤ bb := by omega
  by_cases hc1 : 1 ≤ C
  ·have c1 : (1 : Int) ≤ (C : Int) := by omega
   clear hV
   clear hC hkd hc1 hK hd hb hl
   go_upto_region 5 with (fail)
   have kne : Nonempty (Kin (w0)) := ⟨⟨_, Below.refl _ _⟩⟩
   have kc0 : ∀ y : Kin (w0), y.val.cell? ⟨w.heap.size, 6, none⟩ = some (.int .i64 D) := kcL
   have kc1 : ∀ y : Kin (w0), y.val.cell? ⟨Bt, 0, none⟩ = some (.int .i64 n) := kcL
   have kc2 : ∀ y : Kin (w0), y.val.cell? ⟨Bt, 1, none⟩ = some (.int .i64 T) := kcL
   have kc3 : ∀ y : Kin (w0), y.val.cell? ⟨Bt, 2, none⟩ = some (.int .i64 0) := kcL
   have kc4 : ∀ y : Kin (w0), y.val.cell? ⟨Bt, 3, none⟩ = some (.int .i64 0) := kcL
   refine wp_region_kin (w0) (Below.refl _ _) (by kernel_rfl) (by kernel_rfl) ?_
   repeat (go_big_quiet_step (first | (go_at_call 21; exact kin_call (hPw _))))
   refine wpQuiet_nil ?_
   rintro wq ⟨⟨xq, hxq⟩, hyq⟩
   have hq : Below (w0).heap.size (w0) wq := by rw [hyq]; exact hxq
   clear hyq hxq xq
   clear kne kc0 kc1 kc2 kc3 kc4
   obtain ⟨hcq, hfq⟩ := bcell hq
   have hzq := hq.size
   try simp at hzq
   go_wp2_with (fail)
   go_ret
   exact ⟨rfl, HB0.out.trans (hq.mono HB0.out.size)⟩
  ·obtain rfl : C = 0 := by omega
   obtain rfl : vb = false := hV.resolve_left (by omega)
   clear hV
   clear hC hkd hc1 hK hd hb hl
   go_upto_region 5 with (fail)
   have kne : Nonempty (Kin (w0)) := ⟨⟨_, Below.refl _ _⟩⟩
   have kc0 : ∀ y : Kin (w0), y.val.cell? ⟨w.heap.size, 6, none⟩ = some (.int .i64 D) := kcL
   have kc1 : ∀ y : Kin (w0), y.val.cell? ⟨Bt, 0, none⟩ = some (.int .i64 n) := kcL
   have kc2 : ∀ y : Kin (w0), y.val.cell? ⟨Bt, 1, none⟩ = some (.int .i64 T) := kcL
   have kc3 : ∀ y : Kin (w0), y.val.cell? ⟨Bt, 2, none⟩ = some (.int .i64 0) := kcL
   have kc4 : ∀ y : Kin (w0), y.val.cell? ⟨Bt, 3, none⟩ = some (.int .i64 0) := kcL
   refine wp_region_kin (w0) (Below.refl _ _) (by kernel_rfl) (by kernel_rfl) ?_
   repeat (go_big_quiet_step (first | (go_at_call 21; exact kin_call (hPw _))))
   refine wpQuiet_nil ?_
   rintro wq ⟨⟨xq, hxq⟩, hyq⟩
   have hq : Below (w0).heap.size (w0) wq := by rw [hyq]; exact hxq
   clear hyq hxq xq
   clear kne kc0 kc1 kc2 kc3 kc4
   obtain ⟨hcq, hfq⟩ := bcell hq
   have hzq := hq.size
   try simp at hzq
   go_wp2_with (fail)
   go_ret
   exact ⟨rfl, HB0.out.trans (hq.mono HB0.out.size)⟩
 ·rw [if_neg hkd] at hC
  have kd : ¬ (K : Int) < D := by omega
  have c2 : (C : Int) ≤ (m : Int) := by omega
  by_cases hc1 : 1 ≤ C
  ·have c1 : (1 : Int) ≤ (C : Int) := by omega
   clear hV
   clear hC hkd hc1 hK hd hb hl
   go_upto_region 5 with (fail)
   have kne : Nonempty (Kin (w0)) := ⟨⟨_, Below.refl _ _⟩⟩
   have kc0 : ∀ y : Kin (w0), y.val.cell? ⟨w.heap.size, 6, none⟩ = some (.int .i64 D) := kcL
   have kc1 : ∀ y : Kin (w0), y.val.cell? ⟨Bt, 0, none⟩ = some (.int .i64 n) := kcL
   have kc2 : ∀ y : Kin (w0), y.val.cell? ⟨Bt, 1, none⟩ = some (.int .i64 T) := kcL
   have kc3 : ∀ y : Kin (w0), y.val.cell? ⟨Bt, 2, none⟩ = some (.int .i64 0) := kcL
   have kc4 : ∀ y : Kin (w0), y.val.cell? ⟨Bt, 3, none⟩ = some (.int .i64 0) := kcL
   refine wp_region_kin (w0) (Below.refl _ _) (by kernel_rfl) (by kernel_rfl) ?_
   repeat (go_big_quiet_step (first | (go_at_call 21; exact kin_call (hPw _))))
   refine wpQuiet_nil ?_
   rintro wq ⟨⟨xq, hxq⟩, hyq⟩
   have hq : Below (w0).heap.size (w0) wq := by rw [hyq]; exact hxq
   clear hyq hxq xq
   clear kne kc0 kc1 kc2 kc3 kc4
   obtain ⟨hcq, hfq⟩ := bcell hq
   have hzq := hq.size
   try simp at hzq
   go_wp2_with (fail)
   go_ret
   exact ⟨rfl, HB0.out.trans (hq.mono HB0.out.size)⟩
  ·obtain rfl : C = 0 := by omega
   obtain rfl : vb = false := hV.resolve_left (by omega)
   clear hV
   clear hC hkd hc1 hK hd hb hl
   go_upto_region 5 with (fail)
   have kne : Nonempty (Kin (w0)) := ⟨⟨_, Below.refl _ _⟩⟩
   have kc0 : ∀ y : Kin (w0), y.val.cell? ⟨w.heap.size, 6, none⟩ = some (.int .i64 D) := kcL
   have kc1 : ∀ y : Kin (w0), y.val.cell? ⟨Bt, 0, none⟩ = some (.int .i64 n) := kcL
   have kc2 : ∀ y : Kin (w0), y.val.cell? ⟨Bt, 1, none⟩ = some (.int .i64 T) := kcL
   have kc3 : ∀ y : Kin (w0), y.val.cell? ⟨Bt, 2, none⟩ = some (.int .i64 0) := kcL
   have kc4 : ∀ y : Kin (w0), y.val.cell? ⟨Bt, 3, none⟩ = some (.int .i64 0) := kcL
   refine wp_region_kin (w0) (Below.refl _ _) (by kernel_rfl) (by kernel_rfl) ?_
   repeat (go_big_quiet_step (first | (go_at_call 21; exact kin_call (hPw _))))
   refine wpQuiet_nil ?_
   rintro wq ⟨⟨xq, hxq⟩, hyq⟩
   have hq : Below (w0).heap.size (w0) wq := by rw [hyq]; exact hxq
   clear hyq hxq xq
   clear kne kc0 kc1 kc2 kc3 kc4
   obtain ⟨hcq, hfq⟩ := bcell hq
   have hzq := hq.size
   try simp at hzq
   go_wp2_with (fail)
   go_ret
   exact ⟨rfl, HB0.out.trans (hq.mono HB0.out.size)⟩
theorem Eng.fits {w : World} {X : Nat} {c : Cf} {l : List Ru} {S : Nat → Prop} (hE : Eng w X c l S) {h : Hd} (oh : OkH h) :
  dpK c l h ≤ c.d.toNat ∧ rlK c l h ≤ (if dpK c l h < c.d.toNat then c.b.toNat else l.length) ∧ (1 ≤ rlK c l h ∨ vdH (mat l h) = false) ∧ 1 ≤ (szT c.b.toNat c.d.toNat (rootP l)).1 ∧ (szT c.b.toNat c.d.toNat (rootP l)).1 ≤ 2 ^ (c.d.toNat + 2) ∧ (szT c.b.toNat c.d.toNat (rootP l)).2 ≤ (szT c.b.toNat c.d.toNat (rootP l)).1 * l.length := by
 have k := lfK hE.ok hE.bd hE.cf oh
 obtain ⟨a1, a2, a3⟩ := leaf_mat k
 obtain ⟨b1, b2, b3⟩ := szK hE.ok hE.bd hE.cf
 have hp : 2 ^ (c.d.toNat + 1) ≤ 2 ^ (c.d.toNat + 2) := Nat.pow_le_pow_right (by decide) (by omega)
 refine ⟨k.deep, ?_, ?_, b1, by omega, b3⟩
 ·split
  ·rename_i e; exact Nat.le_trans a2 (k.few e)
  ·exact Nat.le_trans a2 k.len
 ·cases hv : vdH (mat l h) with
  | false => exact .inr rfl
  | true => exact .inl (a3 hv)
set_option maxHeartbeats 2000000 in
theorem eqR_self (a : Ru) (w : World) : Sem.run Tryz.prog (binOp .eql 64 (.agg #[.int .i64 a.i, .int .u32 a.s, .int .i64 a.sl, .int .u32 a.d, .int .i64 a.dl, .int .u16 a.p.1, .int .u16 a.p.2, .int .u16 a.q.1, .int .u16 a.q.2, .int .u8 a.m.1, .int .u8 a.m.2, .int .i64 a.act]) (.agg #[.int .i64 a.i, .int .u32 a.s, .int .i64 a.sl, .int .u32 a.d, .int .i64 a.dl, .int .u16 a.p.1, .int .u16 a.p.2, .int .u16 a.q.1, .int .u16 a.q.2, .int .u8 a.m.1, .int .u8 a.m.2, .int .i64 a.act])) w = .ok (.bool true) w := by
 simp [go_sem]
set_option maxHeartbeats 2000000 in
theorem neR_self (a : Ru) (w : World) : Sem.run Tryz.prog (binOp .neq 64 (.agg #[.int .i64 a.i, .int .u32 a.s, .int .i64 a.sl, .int .u32 a.d, .int .i64 a.dl, .int .u16 a.p.1, .int .u16 a.p.2, .int .u16 a.q.1, .int .u16 a.q.2, .int .u8 a.m.1, .int .u8 a.m.2, .int .i64 a.act]) (.agg #[.int .i64 a.i, .int .u32 a.s, .int .i64 a.sl, .int .u32 a.d, .int .i64 a.dl, .int .u16 a.p.1, .int .u16 a.p.2, .int .u16 a.q.1, .int .u16 a.q.2, .int .u8 a.m.1, .int .u8 a.m.2, .int .i64 a.act])) w = .ok (.bool false) w := by
 simp [go_sem]
theorem amg_no1 {n a b : Int} (h : ¬ a ≤ n) : amg n a b = false := by unfold amg; rw [decide_eq_false h]; rfl
theorem amg_no2 {n a b : Int} (h : ¬ n ≤ b) : amg n a b = false := by unfold amg; rw [decide_eq_false h]; simp
set_option maxRecDepth 20000 in
set_option maxHeartbeats 8000000 in
theorem rcheckCC (c : Cf) (w : World) : Calls Tryz.prog 6 #[.agg #[.int .i64 c.m, .int .i64 c.a, .int .i64 c.p, .int .i64 c.g, .int .i64 c.t, .int .i64 c.b, .int .i64 c.d]] w fun e w' => e = .returned (.int .i64 (errC c)) ∧ Below w.heap.size w w' := by
 obtain ⟨E, hE⟩ : ∃ E, E = errC c := ⟨_, rfl⟩
 rw [← hE]
 have HE : Hid (E = if ((amg c.m 1 64 && amg c.a 1 4) && (amg c.p 0 1048576 && amg c.g 0 1048576 && amg c.t 0 1048576) && (amg c.b 1 16 && amg c.d 0 10)) = true then 0 else 110) := hE
 clear hE
 have HCc := blk_new w (.cells #[.int .i64 c.m, .int .i64 c.a, .int .i64 c.p, .int .i64 c.g, .int .i64 c.t, .int .i64 c.b, .int .i64 c.d] 24)
 have HB : Hid (Below w.heap.size w (w.alloc (.cells #[.int .i64 c.m, .int .i64 c.a, .int .i64 c.p, .int .i64 c.g, .int .i64 c.t, .int .i64 c.b, .int .i64 c.d] 24))) := (Below.refl _ _).alloc (Nat.le_refl _) _
 go_enter Tryz.func6, Tryz.ntmps6
 go_upto_region 1 with (fail)
 generalize w.alloc (.cells #[.int .i64 c.m, .int .i64 c.a, .int .i64 c.p, .int .i64 c.g, .int .i64 c.t, .int .i64 c.b, .int .i64 c.d] 24) = W at *
 have c0 : W.cell? ⟨w.heap.size, 0, none⟩ = some (.int .i64 c.m) := blk_cell HCc rfl
 have c1 : W.cell? ⟨w.heap.size, 1, none⟩ = some (.int .i64 c.a) := blk_cell HCc rfl
 have c2 : W.cell? ⟨w.heap.size, 2, none⟩ = some (.int .i64 c.p) := blk_cell HCc rfl
 have c3 : W.cell? ⟨w.heap.size, 3, none⟩ = some (.int .i64 c.g) := blk_cell HCc rfl
 have c4 : W.cell? ⟨w.heap.size, 4, none⟩ = some (.int .i64 c.t) := blk_cell HCc rfl
 have c5 : W.cell? ⟨w.heap.size, 5, none⟩ = some (.int .i64 c.b) := blk_cell HCc rfl
 have c6 : W.cell? ⟨w.heap.size, 6, none⟩ = some (.int .i64 c.d) := blk_cell HCc rfl
 go_cut [3] (fun s wx => s = .bool (amg c.m 1 64 && amg c.a 1 4) ∧ Hid (wx = W))
 case first =>
  by_cases h4 : 1 ≤ c.m
  ·skip
   by_cases h3 : c.m ≤ 64
   ·skip
    by_cases h2 : 1 ≤ c.a
    ·skip
     by_cases h1 : c.a ≤ 4
     ·go_wp2_with (fail)
      go_meet
      case rel => exact ⟨by rw [amg_iff.2 ⟨h4, h3⟩, amg_iff.2 ⟨h2, h1⟩]; simp, rfl⟩
     ·go_wp2_with (fail)
      go_meet
      case rel => exact ⟨by rw [amg_no2 (n := c.a) (a := 1) (b := 4) (by omega)]; simp, rfl⟩
    ·go_wp2_with (fail)
     go_meet
     case rel => exact ⟨by rw [amg_no1 (n := c.a) (a := 1) (b := 4) (by omega)]; simp, rfl⟩
   ·go_wp2_with (fail)
    go_meet
    case rel => exact ⟨by rw [amg_no2 (n := c.m) (a := 1) (b := 64) (by omega)]; simp, rfl⟩
  ·go_wp2_with (fail)
   go_meet
   case rel => exact ⟨by rw [amg_no1 (n := c.m) (a := 1) (b := 64) (by omega)]; simp, rfl⟩
 case rest =>
  obtain ⟨rfl, hx⟩ := hcut
  obtain rfl := hx.out.symm
  clear hx
  go_upto_region 2 with (fail)
  generalize (amg c.m 1 64 && amg c.a 1 4) = Q1 at *
  go_cut [4] (fun s wx => s = .bool (amg c.p 0 1048576 && amg c.g 0 1048576 && amg c.t 0 1048576) ∧ Hid (wx = W))
  case first =>
   by_cases h6 : 0 ≤ c.p
   ·skip
    by_cases h5 : c.p ≤ 1048576
    ·skip
     by_cases h4 : 0 ≤ c.g
     ·skip
      by_cases h3 : c.g ≤ 1048576
      ·skip
       by_cases h2 : 0 ≤ c.t
       ·skip
        by_cases h1 : c.t ≤ 1048576
        ·go_wp2_with (fail)
         go_meet
         case rel => exact ⟨by rw [amg_iff.2 ⟨h6, h5⟩, amg_iff.2 ⟨h4, h3⟩, amg_iff.2 ⟨h2, h1⟩]; simp, rfl⟩
        ·go_wp2_with (fail)
         go_meet
         case rel => exact ⟨by rw [amg_no2 (n := c.t) (a := 0) (b := 1048576) (by omega)]; simp, rfl⟩
       ·go_wp2_with (fail)
        go_meet
        case rel => exact ⟨by rw [amg_no1 (n := c.t) (a := 0) (b := 1048576) (by omega)]; simp, rfl⟩
      ·go_wp2_with (fail)
       go_meet
       case rel => exact ⟨by rw [amg_no2 (n := c.g) (a := 0) (b := 1048576) (by omega)]; simp, rfl⟩
     ·go_wp2_with (fail)
      go_meet
      case rel => exact ⟨by rw [amg_no1 (n := c.g) (a := 0) (b := 1048576) (by omega)]; simp, rfl⟩
    ·go_wp2_with (fail)
     go_meet
     case rel => exact ⟨by rw [amg_no2 (n := c.p) (a := 0) (b := 1048576) (by omega)]; simp, rfl⟩
   ·go_wp2_with (fail)
    go_meet
    case rel => exact ⟨by rw [amg_no1 (n := c.p) (a := 0) (b := 1048576) (by omega)]; simp, rfl⟩
  case rest =>
   obtain ⟨rfl, hx⟩ := hcut
   obtain rfl := hx.out.symm
   clear hx
   generalize (amg c.p 0 1048576 && amg c.g 0 1048576 && amg c.t 0 1048576) = Q2 at *
   cases Q1
   ·go_wp2_with (fail)
    go_ret
    exact ⟨ret_int (by rw [HE.out]; simp), HB.out⟩
   ·cases Q2
    ·go_wp2_with (fail)
     go_ret
     exact ⟨ret_int (by rw [HE.out]; simp), HB.out⟩
    ·by_cases h4 : c.b < 1
     ·have h4' := amg_no1 (n := c.b) (a := 1) (b := 16) (by omega)
      rw [h4'] at HE
      go_wp2_with (fail)
      go_ret
      exact ⟨ret_int (by rw [HE.out]; simp), HB.out⟩
     ·by_cases h3 : 16 < c.b
      ·have h3' := amg_no2 (n := c.b) (a := 1) (b := 16) (by omega)
       rw [h3'] at HE
       go_wp2_with (fail)
       go_ret
       exact ⟨ret_int (by rw [HE.out]; simp), HB.out⟩
      ·have e4 := amg_iff.2 (show 1 ≤ c.b ∧ c.b ≤ 16 by omega)
       rw [e4] at HE
       by_cases h2 : c.d < 0
       ·have h2' := amg_no1 (n := c.d) (a := 0) (b := 10) (by omega)
        rw [h2'] at HE
        go_wp2_with (fail)
        go_ret
        exact ⟨ret_int (by rw [HE.out]; simp), HB.out⟩
       ·by_cases h1 : 10 < c.d
        ·have h1' := amg_no2 (n := c.d) (a := 0) (b := 10) (by omega)
         rw [h1'] at HE
         go_wp2_with (fail)
         go_ret
         exact ⟨ret_int (by rw [HE.out]; simp), HB.out⟩
        ·have e1 := amg_iff.2 (show 0 ≤ c.d ∧ c.d ≤ 10 by omega)
         rw [e1] at HE
         go_wp2_with (fail)
         go_ret
         exact ⟨ret_int (by rw [HE.out]; simp), HB.out⟩
end Go.Proofs.YtgokmkholjfhbaaGreat

