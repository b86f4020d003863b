/-
  The document's Count of rules (quintetref08). Written by tools/mkRuRe.py.
-/
import Derived.Test.YtebljklpkoheaaaGreatRuRc
import Derived.Test.YtebljklpkoheaaaGreatMkUB
namespace Go.Proofs.YtebljklpkoheaaaGreat
open Go.RowKit
set_option linter.unusedVariables false
set_option linter.unusedSimpArgs false

theorem u64w (x : Int) : IntKind.u64.wrap x = x % 18446744073709551616 := rfl
theorem two_step {N sd k : Nat} (hN : N < 18446744073709551616) (hB : N * 2 ^ (64 - sd) < 340282366920938463463374607431768211456) (h1 : sd ≤ k) (h2 : k < 64) :
    hiW (N * 2 ^ (k + 1 - sd)) = 2 * hiW (N * 2 ^ (k - sd)) + loW (N * 2 ^ (k - sd)) / 9223372036854775808 ∧ loW (N * 2 ^ (k + 1 - sd)) = 2 * loW (N * 2 ^ (k - sd)) % 18446744073709551616 ∧ 2 * hiW (N * 2 ^ (k - sd)) + loW (N * 2 ^ (k - sd)) / 9223372036854775808 < 18446744073709551616 ∧ loW (N * 2 ^ (k - sd)) < 18446744073709551616 := by
  have e : N * 2 ^ (k + 1 - sd) = 2 * (N * 2 ^ (k - sd)) := by rw [show k + 1 - sd = (k - sd) + 1 by omega, Nat.pow_succ, ← Nat.mul_assoc, Nat.mul_comm]
  have l : N * 2 ^ (k + 1 - sd) ≤ N * 2 ^ (64 - sd) := Nat.mul_le_mul_left _ (Nat.pow_le_pow_right (by decide) (by omega))
  rw [e] at l ⊢
  generalize N * 2 ^ (k - sd) = m at *
  unfold hiW loW
  omega
theorem cnt_ref {R : Ru} (h : okR R = true) : ∃ m n : Nat, R.sl = (m : Int) ∧ R.dl = (n : Int) ∧ m ≤ 32 ∧ n ≤ 32 ∧ cntR R = cntI R.p * cntI R.q * cntM R.m.1 R.m.2 * 2 ^ (64 - (m + n)) := by
  obtain ⟨m, e1, l1, _⟩ := Pf.chk_ok ((okR_iff R).1 h).2.1
  obtain ⟨n, e2, l2, _⟩ := Pf.chk_ok ((okR_iff R).1 h).2.2.1
  refine ⟨m, n, e1, e2, l1, l2, ?_⟩
  rw [cntR_in h, cnt_box h, e1, e2, Int.toNat_natCast, Int.toNat_natCast, bk_two l1 l2]
set_option maxRecDepth 20000 in
set_option maxHeartbeats 4000000 in
theorem rcountR (R : Ru) (w : World) (b : BdR R) :
    Calls Tryz.prog 14 #[.agg #[.int .i64 R.i, .int .u32 (R.s : Int), .int .i64 R.sl, .int .u32 (R.d : Int), .int .i64 R.dl, .int .u16 (R.p.1 : Int), .int .u16 (R.p.2 : Int), .int .u16 (R.q.1 : Int), .int .u16 (R.q.2 : Int), .int .u8 (R.m.1 : Int), .int .u8 (R.m.2 : Int), .int .i64 R.act]] w fun e w' => e = .returned (.tuple #[.int .u64 ((hiW (cntR R) : Nat) : Int), .int .u64 ((loW (cntR R) : Nat) : Int)]) ∧ Below w.heap.size w w' := by
  have hM := fun W => rmayR R W b
  cases ho : okR R
  · rw [show cntR R = 0 by unfold cntR; rw [ho]; rfl]
    rw [ho] at hM
    clear ho b
    go_enter Tryz.func14, Tryz.ntmps14
    go_wp2_with (fail)
    refine (hM _).mono ?_
    rintro e w1 ⟨rfl, hb1⟩
    have GR : Hid (w1.heap[w.heap.size]? = some (.cells #[.int .i64 R.i, .int .u32 (R.s : Int), .int .i64 R.sl, .int .u32 (R.d : Int), .int .i64 R.dl, .int .u16 (R.p.1 : Int), .int .u16 (R.p.2 : Int), .int .u16 (R.q.1 : Int), .int .u16 (R.q.2 : Int), .int .u8 (R.m.1 : Int), .int .u8 (R.m.2 : Int), .int .i64 R.act] 32)) := blk_on (blk_new w (.cells #[.int .i64 R.i, .int .u32 (R.s : Int), .int .i64 R.sl, .int .u32 (R.d : Int), .int .i64 R.dl, .int .u16 (R.p.1 : Int), .int .u16 (R.p.2 : Int), .int .u16 (R.q.1 : Int), .int .u16 (R.q.2 : Int), .int .u8 (R.m.1 : Int), .int .u8 (R.m.2 : Int), .int .i64 R.act] 32)) hb1
    have HO1 : Hid (w.heap.size < w1.heap.size) := blk_lt GR.out
    have hbl1 : Hid (Below w.heap.size w w1) := bel_step (Below.refl _ _) (bel_a1 _ _) hb1
    clear hb1
    have HR := GR
    clear GR
    have lR := blk_lt HR.out
    have nR : ¬ w.heap.size = w1.heap.size := by omega
    go_wp2_with (fail)
    exact bodyPost_ret (v := .tuple #[.int .u64 0, .int .u64 0]) (by simp [results, Tryz.results14, go_sem]) rfl ⟨rfl, hbl1.out⟩
  · rw [ho] at hM
    obtain ⟨m, n, es, ed, hm, hn, hc⟩ := cnt_ref ho
    have hlt := cntR_lt b
    obtain ⟨_, _, _, o4, o5, o6, _⟩ := (okR_iff R).1 ho
    have o4 := of_decide_eq_true o4
    have o5 := of_decide_eq_true o5
    obtain ⟨b1, b2, b3, b4, b5, b6, b7, b8, _⟩ := b
    have hK := fun W => rcountM R.m.1 R.m.2 W b7 b8
    have hcm := cntM_le R.m.1 R.m.2 b7 b8
    obtain ⟨N, hN⟩ : ∃ N, N = cntI R.p * cntI R.q * cntM R.m.1 R.m.2 := ⟨_, rfl⟩
    rw [← hN] at hc
    have hp1 : cntI R.p ≤ 65536 := by unfold cntI; omega
    have hq1 : cntI R.q ≤ 65536 := by unfold cntI; omega
    have hpq : cntI R.p * cntI R.q ≤ 65536 * 65536 := Nat.mul_le_mul hp1 hq1
    have hNle : N ≤ 65536 * 65536 * 256 := by rw [hN]; exact Nat.mul_le_mul hpq hcm
    have HNlt : Hid (N < 18446744073709551616) := by show _ < _; omega
    have HBD : Hid (N * 2 ^ (64 - (m + n)) < 340282366920938463463374607431768211456) := by show _ < _; rw [← hc]; exact hlt
    have HPQ : Hid (hiW (N * 2 ^ (64 - (m + n))) = hiW (cntR R) ∧ loW (N * 2 ^ (64 - (m + n))) = loW (cntR R)) := by show _ ∧ _; rw [hc]; exact ⟨rfl, rfl⟩
    obtain ⟨a, ha⟩ : ∃ a : Nat, a = cntI R.p := ⟨_, rfl⟩
    obtain ⟨c, hcq⟩ : ∃ c : Nat, c = cntI R.q := ⟨_, rfl⟩
    have hw : ∀ x : Int, IntKind.u64.wrap x = x % 18446744073709551616 := fun x => rfl
    have v1 : IntKind.u64.wrap (R.p.1 : Int) = (R.p.1 : Int) := by rw [hw]; omega
    have v2 : IntKind.u64.wrap (R.p.2 : Int) = (R.p.2 : Int) := by rw [hw]; omega
    have v3 : IntKind.u64.wrap (R.q.1 : Int) = (R.q.1 : Int) := by rw [hw]; omega
    have v4 : IntKind.u64.wrap (R.q.2 : Int) = (R.q.2 : Int) := by rw [hw]; omega
    have ea0 : IntKind.u64.wrap ((R.p.2 : Int) - (R.p.1 : Int)) = (R.p.2 : Int) - (R.p.1 : Int) := by rw [hw]; omega
    have ec0 : IntKind.u64.wrap ((R.q.2 : Int) - (R.q.1 : Int)) = (R.q.2 : Int) - (R.q.1 : Int) := by rw [hw]; omega
    have ea : IntKind.u64.wrap ((R.p.2 : Int) - (R.p.1 : Int) + 1) = (a : Int) := by rw [hw, ha]; unfold cntI; omega
    have ec : IntKind.u64.wrap ((R.q.2 : Int) - (R.q.1 : Int) + 1) = (c : Int) := by rw [hw, hcq]; unfold cntI; omega
    obtain ⟨D, hD⟩ : ∃ D : Nat, D = a * c := ⟨_, rfl⟩
    have hDle : D ≤ 65536 * 65536 := by rw [hD, ha, hcq]; exact hpq
    have eD : IntKind.u64.wrap ((a : Int) * (c : Int)) = (D : Int) := by rw [hw, hD, Int.natCast_mul, ← Int.natCast_mul, ← hD]; omega
    have eN : IntKind.u64.wrap ((D : Int) * ((cntM R.m.1 R.m.2 : Nat) : Int)) = (N : Int) := by rw [hw, ← Int.natCast_mul, hD, ha, hcq, ← hN]; omega
    have eM1 : IntKind.u64.wrap ((cntM R.m.1 R.m.2 : Nat) : Int) = ((cntM R.m.1 R.m.2 : Nat) : Int) := by rw [hw]; omega
    clear hw
    have hsl : (0 : Int) ≤ R.sl ∧ R.sl ≤ 32 := by omega
    have hdl : (0 : Int) ≤ R.dl ∧ R.dl ≤ 32 := by omega
    obtain ⟨hsl1, hsl2⟩ := hsl
    obtain ⟨hdl1, hdl2⟩ := hdl
    obtain ⟨sd, hsd⟩ : ∃ sd : Nat, sd = m + n := ⟨_, rfl⟩
    rw [← hsd] at HBD HPQ
    have HS : Hid (R.sl + R.dl = (sd : Int)) := by show _ = _; omega
    have HSD : Hid (sd ≤ 64) := by show _ ≤ _; omega
    generalize cntM R.m.1 R.m.2 = mm at *
    generalize hiW (cntR R) = p at *
    generalize loW (cntR R) = q at *
    clear ho es ed hm hn hc hlt o4 o5 o6 b1 b2 b3 b4 b5 b6 b7 b8 hcm hp1 hq1 hpq hNle ha hcq hD hDle hN hsd
    go_enter Tryz.func14, Tryz.ntmps14
    go_wp2_with (fail)
    refine (hM _).mono ?_
    rintro e w1 ⟨rfl, hb1⟩
    have GR : Hid (w1.heap[w.heap.size]? = some (.cells #[.int .i64 R.i, .int .u32 (R.s : Int), .int .i64 R.sl, .int .u32 (R.d : Int), .int .i64 R.dl, .int .u16 (R.p.1 : Int), .int .u16 (R.p.2 : Int), .int .u16 (R.q.1 : Int), .int .u16 (R.q.2 : Int), .int .u8 (R.m.1 : Int), .int .u8 (R.m.2 : Int), .int .i64 R.act] 32)) := blk_on (blk_new w (.cells #[.int .i64 R.i, .int .u32 (R.s : Int), .int .i64 R.sl, .int .u32 (R.d : Int), .int .i64 R.dl, .int .u16 (R.p.1 : Int), .int .u16 (R.p.2 : Int), .int .u16 (R.q.1 : Int), .int .u16 (R.q.2 : Int), .int .u8 (R.m.1 : Int), .int .u8 (R.m.2 : Int), .int .i64 R.act] 32)) hb1
    have HO1 : Hid (w.heap.size < w1.heap.size) := blk_lt GR.out
    have hbl1 : Hid (Below w.heap.size w w1) := bel_step (Below.refl _ _) (bel_a1 _ _) hb1
    clear hb1
    have HR := GR
    clear GR
    have lR := blk_lt HR.out
    have nR : ¬ w.heap.size = w1.heap.size := by omega
    go_upto_region 4 with (fail)
    go_cut [5] (fun v wx => v = .int .u64 (N : Int) ∧ Hid (Below w1.heap.size w1 wx))
    case first =>
      have kne : Nonempty (Kin (w1)) := ⟨⟨_, Below.refl _ _⟩⟩
      have kbR : ∀ y : Kin (w1), y.val.heap[w.heap.size]? = some (.cells #[.int .i64 R.i, .int .u32 (R.s : Int), .int .i64 R.sl, .int .u32 (R.d : Int), .int .i64 R.dl, .int .u16 (R.p.1 : Int), .int .u16 (R.p.2 : Int), .int .u16 (R.q.1 : Int), .int .u16 (R.q.2 : Int), .int .u8 (R.m.1 : Int), .int .u8 (R.m.2 : Int), .int .i64 R.act] 32) := fun y => blk_on HR.out y.is
      have kcR_0 : ∀ y : Kin (w1), y.val.cell? ⟨w.heap.size, 0, none⟩ = some (.int .i64 R.i) := fun y => blk_cell (kbR y) rfl
      have kcR_1 : ∀ y : Kin (w1), y.val.cell? ⟨w.heap.size, 1, none⟩ = some (.int .u32 (R.s : Int)) := fun y => blk_cell (kbR y) rfl
      have kcR_2 : ∀ y : Kin (w1), y.val.cell? ⟨w.heap.size, 2, none⟩ = some (.int .i64 R.sl) := fun y => blk_cell (kbR y) rfl
      have kcR_3 : ∀ y : Kin (w1), y.val.cell? ⟨w.heap.size, 3, none⟩ = some (.int .u32 (R.d : Int)) := fun y => blk_cell (kbR y) rfl
      have kcR_4 : ∀ y : Kin (w1), y.val.cell? ⟨w.heap.size, 4, none⟩ = some (.int .i64 R.dl) := fun y => blk_cell (kbR y) rfl
      have kcR_5 : ∀ y : Kin (w1), y.val.cell? ⟨w.heap.size, 5, none⟩ = some (.int .u16 (R.p.1 : Int)) := fun y => blk_cell (kbR y) rfl
      have kcR_6 : ∀ y : Kin (w1), y.val.cell? ⟨w.heap.size, 6, none⟩ = some (.int .u16 (R.p.2 : Int)) := fun y => blk_cell (kbR y) rfl
      have kcR_7 : ∀ y : Kin (w1), y.val.cell? ⟨w.heap.size, 7, none⟩ = some (.int .u16 (R.q.1 : Int)) := fun y => blk_cell (kbR y) rfl
      have kcR_8 : ∀ y : Kin (w1), y.val.cell? ⟨w.heap.size, 8, none⟩ = some (.int .u16 (R.q.2 : Int)) := fun y => blk_cell (kbR y) rfl
      have kcR_9 : ∀ y : Kin (w1), y.val.cell? ⟨w.heap.size, 9, none⟩ = some (.int .u8 (R.m.1 : Int)) := fun y => blk_cell (kbR y) rfl
      have kcR_10 : ∀ y : Kin (w1), y.val.cell? ⟨w.heap.size, 10, none⟩ = some (.int .u8 (R.m.2 : Int)) := fun y => blk_cell (kbR y) rfl
      have kcR_11 : ∀ y : Kin (w1), y.val.cell? ⟨w.heap.size, 11, none⟩ = some (.int .i64 R.act) := fun y => blk_cell (kbR y) rfl
      clear kbR
      refine wp_region_kin (w1) (Below.refl _ _) (by kernel_rfl) (by kernel_rfl) ?_
      repeat (go_big_quiet_step ((go_at_call 39; exact kin_call (hK _))))
      refine wpQuiet_nil ?_
      rintro wq ⟨⟨xq, hxq⟩, hyq⟩
      have hq : Below (w1).heap.size (w1) wq := by rw [hyq]; exact hxq
      clear hyq hxq xq kne kcR_0 kcR_1 kcR_2 kcR_3 kcR_4 kcR_5 kcR_6 kcR_7 kcR_8 kcR_9 kcR_10 kcR_11
      have hblq : Hid (Below w.heap.size w wq) := bel_step hbl1.out (bel_a0 _) hq
      have HQ : Hid (Below w1.heap.size w1 wq) := hq
      go_wp2_with (fail)
      go_meet
      case rel => exact ⟨by simp only [v1, v2, v3, v4, ea0, ea, ec0, ec, eD, eN], HQ.out⟩
    case rest =>
      obtain ⟨rfl, HB⟩ := hcut
      have HRc := blk_on HR.out HB.out
      obtain ⟨c0, c1, c2, c3, c4, c5, c6, c7, c8, c9, c10, c11⟩ := blk12 HRc
      clear c0 c1 c3 c5 c6 c7 c8 c9 c10 c11
      have HBw : Hid (Below w.heap.size w wc) := hbl1.out.trans (HB.out.mono hbl1.out.size)
      go_wp2_with (fail)
      go_loopw [4, 5, 6] (fun hv lv iv wr => ∃ k x y : Nat, sd ≤ k ∧ k ≤ 64 ∧ iv = .int .i64 (k : Int) ∧ hv = .int .u64 (x : Int) ∧ lv = .int .u64 (y : Int) ∧ Hid (x = hiW (N * 2 ^ (k - sd)) ∧ y = loW (N * 2 ^ (k - sd))) ∧ wr = wc) (fun _ _ iv _ => 64 - (intOf iv).toNat)
      case atStart => exact ⟨sd, 0, N, Nat.le_refl _, HSD.out, by rw [← HS.out], rfl, rfl, by
        show _ ∧ _
        have := HNlt.out
        rw [Nat.sub_self]
        unfold hiW loW
        omega, rfl⟩
      case round =>
        obtain ⟨k, x, y, hk1, hk2, rfl, rfl, rfl, HXY, hwr⟩ := hrel
        subst hwr
        by_cases hlt : k < 64
        · have HT := two_step HNlt.out HBD.out hk1 hlt
          obtain ⟨e1, e2⟩ := HXY.out
          rw [← e1, ← e2] at HT
          obtain ⟨h1, h2, h3, h4⟩ := HT
          have H1 : Hid (hiW (N * 2 ^ (k + 1 - sd)) = 2 * x + y / 9223372036854775808) := h1
          have H2 : Hid (loW (N * 2 ^ (k + 1 - sd)) = 2 * y % 18446744073709551616) := h2
          have H3 : Hid (2 * x + y / 9223372036854775808 < 18446744073709551616) := h3
          have H4 : Hid (y < 18446744073709551616) := h4
          clear h1 h2 h3 h4 e1 e2 HXY
          have hlt' : (k : Int) < 64 := by omega
          go_wp2_with (fail)
          go_roundw
          case rel =>
            refine ⟨k + 1, 2 * x + y / 9223372036854775808, 2 * y % 18446744073709551616, by omega, by omega, by go_num, ?_, ?_, ⟨H1.out.symm, H2.out.symm⟩, trivial⟩
            · have := H3.out
              have := H4.out
              simp only [u64w, Value.int.injEq, true_and]; omega
            · have := H4.out
              simp only [u64w, Value.int.injEq, true_and]; omega
          case measure => simp [intOf]; omega
        · obtain rfl : k = 64 := by omega
          obtain ⟨e1, e2⟩ := HXY.out
          have HF : Hid (x = p ∧ y = q) := ⟨by rw [e1]; exact HPQ.out.1, by rw [e2]; exact HPQ.out.2⟩
          clear e1 e2 HXY
          go_wp2_with (fail)
          exact bodyPost_ret (v := .tuple #[.int .u64 (x : Int), .int .u64 (y : Int)]) (by simp [results, Tryz.results14, go_sem]) rfl ⟨by obtain ⟨e1, e2⟩ := HF.out; subst e1 e2; rfl, HBw.out⟩
end Go.Proofs.YtebljklpkoheaaaGreat
