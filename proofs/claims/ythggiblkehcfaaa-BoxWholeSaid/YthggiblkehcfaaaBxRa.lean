/-
  Whole, First, times, Count of the document's answer. Written by tools/mkBxR.py.
-/
import Derived.Test.YthggiblkehcfaaaBxK
import Derived.Test.YthggiblkehcfaaaBxW
import Derived.Test.YthggiblkehcfaaaMkUB
import Derived.Shelf.Bits.Mul64
namespace Go.Proofs.Ythggiblkehcfaaa
open Go.RowKit
set_option linter.unusedVariables false
set_option linter.unusedSimpArgs false

theorem rwholeX (w : World) : Calls Try.prog 11 #[] w fun e w' => e = .returned (.agg #[.int .u32 (wholeX.a.1 : Int), .int .u32 (wholeX.a.2 : Int), .int .u32 (wholeX.b.1 : Int), .int .u32 (wholeX.b.2 : Int), .int .u16 (wholeX.c.1 : Int), .int .u16 (wholeX.c.2 : Int), .int .u16 (wholeX.d.1 : Int), .int .u16 (wholeX.d.2 : Int), .int .u8 (wholeX.m.1 : Int), .int .u8 (wholeX.m.2 : Int)]) ∧ Below w.heap.size w w' := by
  go_enter Try.func11, Try.ntmps11
  go_wp2
  exact bodyPost_ret (v := .agg #[.int .u32 (wholeX.a.1 : Int), .int .u32 (wholeX.a.2 : Int), .int .u32 (wholeX.b.1 : Int), .int .u32 (wholeX.b.2 : Int), .int .u16 (wholeX.c.1 : Int), .int .u16 (wholeX.c.2 : Int), .int .u16 (wholeX.d.1 : Int), .int .u16 (wholeX.d.2 : Int), .int .u8 (wholeX.m.1 : Int), .int .u8 (wholeX.m.2 : Int)]) (by simp [results, Try.results11, go_sem, wholeX]) rfl ⟨rfl, by (repeat (first | assumption | exact Below.refl _ _ | refine Below.drew ?_ | refine bel_drewN ?_ _ | refine Below.setCell ?_ (by first | omega | (simp; done) | (simp; omega)) _ | refine Below.alloc ?_ (by first | omega | (simp; done) | (simp; omega)) _ | refine bel_of ?_ (by assumption)))⟩
set_option maxRecDepth 20000 in
theorem rfirstX (X : Bx) (w : World) (b : BdX X) : Calls Try.prog 17 #[.agg #[.int .u32 (X.a.1 : Int), .int .u32 (X.a.2 : Int), .int .u32 (X.b.1 : Int), .int .u32 (X.b.2 : Int), .int .u16 (X.c.1 : Int), .int .u16 (X.c.2 : Int), .int .u16 (X.d.1 : Int), .int .u16 (X.d.2 : Int), .int .u8 (X.m.1 : Int), .int .u8 (X.m.2 : Int)]] w fun e w' => e = .returned (.tuple #[.agg #[.int .u32 ((firstX X).s : Int), .int .u32 ((firstX X).d : Int), .int .u16 ((firstX X).p : Int), .int .u16 ((firstX X).q : Int), .int .u8 ((firstX X).r : Int)], .int .i64 (chkX X)]) ∧ Below w.heap.size w w' := by
  have hC := fun W => rcheckX X W b
  cases ho : okX X
  · have hn : ¬ chkX X = 0 := fun e => by rw [chkX_ok, ho] at e; cases e
    rw [show firstX X = ⟨0, 0, 0, 0, 0⟩ by unfold firstX; rw [ho]; rfl]
    generalize chkX X = cc at *
    clear ho b
    go_enter Try.func17, Try.ntmps17
    go_wp2_with (fail)
    refine (hC _).mono ?_
    rintro e w1 ⟨rfl, hb1⟩
    have hR : w1.heap[w.heap.size + 1]? = some (.cells #[.int .u32 0, .int .u32 0, .int .u16 0, .int .u16 0, .int .u8 0] 25) := blk_on (by simpa using blk_new (w.alloc (.cells #[.int .u32 (X.a.1 : Int), .int .u32 (X.a.2 : Int), .int .u32 (X.b.1 : Int), .int .u32 (X.b.2 : Int), .int .u16 (X.c.1 : Int), .int .u16 (X.c.2 : Int), .int .u16 (X.d.1 : Int), .int .u16 (X.d.2 : Int), .int .u8 (X.m.1 : Int), .int .u8 (X.m.2 : Int)] 33)) (.cells #[.int .u32 0, .int .u32 0, .int .u16 0, .int .u16 0, .int .u8 0] 25)) hb1
    have hbl : Hid (Below w.heap.size w w1) := by show Below _ _ _; (repeat (first | assumption | exact Below.refl _ _ | refine Below.drew ?_ | refine bel_drewN ?_ _ | refine Below.setCell ?_ (by first | omega | (simp; done) | (simp; omega)) _ | refine Below.alloc ?_ (by first | omega | (simp; done) | (simp; omega)) _ | refine bel_of ?_ (by assumption)))
    clear hb1 hC
    go_wp2_with (refine wpList_store_blk rfl 25 (.tmp 2) (.tmp 9) rfl (w.heap.size + 1) 0 #[.int .u32 0, .int .u32 0, .int .u16 0, .int .u16 0, .int .u8 0] #[.int .u32 0, .int .u32 0, .int .u16 0, .int .u16 0, .int .u8 0] rfl rfl 25 _ hR (Nat.le_of_ble_eq_true rfl) rfl (by kernel_rfl) rfl ?_; intro w3 h3 ho3)
    exact bodyPost_ret (results_blk2 Try.results17 rfl h3 Try.underlying25 rfl (by kernel_rfl)) rfl ⟨rfl, hbl.out.trans (ho3.below (by omega))⟩
  · rw [show firstX X = leastX X by unfold firstX; rw [ho]; rfl]
    rw [chkX_ok.2 ho] at hC ⊢
    clear ho b
    go_enter Try.func17, Try.ntmps17
    go_wp2_with (fail)
    refine (hC _).mono ?_
    rintro e w1 ⟨rfl, hb1⟩
    have hX1 : w1.heap[w.heap.size]? = some (.cells #[.int .u32 (X.a.1 : Int), .int .u32 (X.a.2 : Int), .int .u32 (X.b.1 : Int), .int .u32 (X.b.2 : Int), .int .u16 (X.c.1 : Int), .int .u16 (X.c.2 : Int), .int .u16 (X.d.1 : Int), .int .u16 (X.d.2 : Int), .int .u8 (X.m.1 : Int), .int .u8 (X.m.2 : Int)] 33) := blk_on (blk_alloc (blk_new w _) _) hb1
    obtain ⟨c0, c1, c2, c3, c4, c5, c6, c7, c8, c9⟩ := blk10 hX1
    have hR : w1.heap[w.heap.size + 1]? = some (.cells #[.int .u32 0, .int .u32 0, .int .u16 0, .int .u16 0, .int .u8 0] 25) := blk_on (by simpa using blk_new (w.alloc (.cells #[.int .u32 (X.a.1 : Int), .int .u32 (X.a.2 : Int), .int .u32 (X.b.1 : Int), .int .u32 (X.b.2 : Int), .int .u16 (X.c.1 : Int), .int .u16 (X.c.2 : Int), .int .u16 (X.d.1 : Int), .int .u16 (X.d.2 : Int), .int .u8 (X.m.1 : Int), .int .u8 (X.m.2 : Int)] 33)) (.cells #[.int .u32 0, .int .u32 0, .int .u16 0, .int .u16 0, .int .u8 0] 25)) hb1
    have hbl : Hid (Below w.heap.size w w1) := by show Below _ _ _; (repeat (first | assumption | exact Below.refl _ _ | refine Below.drew ?_ | refine bel_drewN ?_ _ | refine Below.setCell ?_ (by first | omega | (simp; done) | (simp; omega)) _ | refine Below.alloc ?_ (by first | omega | (simp; done) | (simp; omega)) _ | refine bel_of ?_ (by assumption)))
    clear hb1 hC hX1
    go_wp2_with (refine wpList_store_blk rfl 25 (.tmp 2) (.tmp 26) rfl (w.heap.size + 1) 0 #[.int .u32 (X.a.1 : Int), .int .u32 (X.b.1 : Int), .int .u16 (X.c.1 : Int), .int .u16 (X.d.1 : Int), .int .u8 (X.m.1 : Int)] #[.int .u32 (X.a.1 : Int), .int .u32 (X.b.1 : Int), .int .u16 (X.c.1 : Int), .int .u16 (X.d.1 : Int), .int .u8 (X.m.1 : Int)] rfl rfl 25 _ hR (Nat.le_of_ble_eq_true rfl) rfl (by kernel_rfl) rfl ?_; intro w3 h3 ho3)
    exact bodyPost_ret (results_blk2 Try.results17 rfl h3 Try.underlying25 rfl (by kernel_rfl)) rfl ⟨rfl, hbl.out.trans (ho3.below (by omega))⟩
theorem hi_part {N n : Nat} (h : N * n < 340282366920938463463374607431768211456) : hiW N * n + loW N * n / 18446744073709551616 = hiW (N * n) ∧ loW N * n % 18446744073709551616 = loW (N * n) := by
  unfold hiW loW
  have e1 := Nat.div_add_mod N 18446744073709551616
  generalize N / 18446744073709551616 = H at *
  generalize N % 18446744073709551616 = L at *
  have e2 : N * n = 18446744073709551616 * (H * n) + L * n := by rw [← e1, Nat.add_mul, Nat.mul_assoc]
  rw [e2]
  generalize H * n = A
  generalize L * n = B
  omega
theorem or_low (a b : Nat) (hb : b < 4294967296) : a * 4294967296 ||| b = a * 4294967296 + b := by
  have := Nat.shiftLeft_add_eq_or_of_lt (i := 32) (b := b) hb a
  rw [Nat.shiftLeft_eq] at this
  exact this.symm
set_option maxRecDepth 20000 in
set_option maxHeartbeats 1000000 in
theorem rtimesX (N n : Nat) (w : World) (hn : n ≤ 4294967296) (h : N * n < 340282366920938463463374607431768211456) :
    Calls Try.prog 33 #[.int .u64 ((hiW N : Nat) : Int), .int .u64 ((loW N : Nat) : Int), .int .u64 (n : Int)] w fun e w' => e = .returned (.tuple #[.int .u64 ((hiW (N * n) : Nat) : Int), .int .u64 ((loW (N * n) : Nat) : Int)]) ∧ w' = w := by
  obtain ⟨t1, t2⟩ := times_is (n := N) (k := n) (by omega) h
  have hL : loW N < 18446744073709551616 := Nat.mod_lt _ (by decide)
  have hHl : hiW (N * n) < 18446744073709551616 := by unfold hiW; omega
  generalize hiW (N * n) = HH at *
  generalize loW (N * n) = LL at *
  generalize hiW N = H at *
  generalize loW N = L at *
  clear h
  have b1 : L / 4294967296 * n ≤ 4294967295 * 4294967296 := Nat.mul_le_mul (by omega) hn
  have b2 : L % 4294967296 * n ≤ 4294967295 * 4294967296 := Nat.mul_le_mul (by omega) hn
  have b1' : L / 4294967296 * n < 18446744073709551616 := by omega
  have b2' : L % 4294967296 * n < 18446744073709551616 := by omega
  have b3 : L / 4294967296 * n + L % 4294967296 * n / 4294967296 < 18446744073709551616 := by omega
  have b4 : H * n + (L / 4294967296 * n + L % 4294967296 * n / 4294967296) / 4294967296 < 18446744073709551616 := by omega
  have b5 : H * n < 18446744073709551616 := by omega
  go_enter Try.func33, Try.ntmps33
  go_wp2
  simp only [Mul64.maskN L hL, Mul64.divN, Mul64.mulN, Mul64.addN, Mul64.wrapN _ b1', Mul64.wrapN _ b2', Mul64.wrapN _ b3, Mul64.maskN _ b2', Mul64.wrapN _ b5, Mul64.wrapN _ b4]
  rw [← t1]
  go_ret2
  refine ⟨?_, rfl⟩
  have e : bits .or .u64 (IntKind.u64.wrap (((L / 4294967296 * n + L % 4294967296 * n / 4294967296 : Nat) : Int) * 4294967296)) ((L % 4294967296 * n % 4294967296 : Nat) : Int) = (LL : Int) := by
    rw [t2]
    generalize L / 4294967296 * n + L % 4294967296 * n / 4294967296 = S
    generalize L % 4294967296 * n = B
    have e1 : IntKind.u64.wrap ((S : Int) * 4294967296) = ((S % 4294967296 * 4294967296 : Nat) : Int) := by rw [IntKind.wrap_u64]; omega
    rw [e1, bits_or_u64_nat _ _ (by omega) (by omega), or_low _ _ (by omega)]
  show Ending.returned (.tuple #[.int .u64 (HH : Int), .int .u64 (bits .or .u64 (IntKind.u64.wrap (((L / 4294967296 * n + L % 4294967296 * n / 4294967296 : Nat) : Int) * 4294967296)) ((L % 4294967296 * n % 4294967296 : Nat) : Int))]) = _
  rw [e]

theorem cnt_int {s : Nat × Nat} (h : okI s = true) : (s.2 : Int) - (s.1 : Int) + 1 = ((cntI s : Nat) : Int) := by
  have := of_decide_eq_true h
  unfold cntI; omega
theorem cnt_le {s : Nat × Nat} {n : Nat} (h : s.2 < n) : cntI s ≤ n := by unfold cntI; omega
theorem cntX_is {X : Bx} (h : okX X = true) : cntX X = cntM X.m.1 X.m.2 * cntI X.c * cntI X.d * cntI X.a * cntI X.b := by
  unfold cntX
  rw [if_pos h]
  simp only [Nat.mul_assoc, Nat.mul_comm, Nat.mul_left_comm]
set_option maxRecDepth 20000 in
set_option maxHeartbeats 2000000 in
theorem rcountX (X : Bx) (w : World) (b : BdX X) : Calls Try.prog 19 #[.agg #[.int .u32 (X.a.1 : Int), .int .u32 (X.a.2 : Int), .int .u32 (X.b.1 : Int), .int .u32 (X.b.2 : Int), .int .u16 (X.c.1 : Int), .int .u16 (X.c.2 : Int), .int .u16 (X.d.1 : Int), .int .u16 (X.d.2 : Int), .int .u8 (X.m.1 : Int), .int .u8 (X.m.2 : Int)]] w fun e w' => e = .returned (.tuple #[.int .u64 ((hiW (cntX X) : Nat) : Int), .int .u64 ((loW (cntX X) : Nat) : Int)]) ∧ Below w.heap.size w w' := by
  have hC := fun W => rcheckX X W b
  cases ho : okX X
  · have hn : ¬ chkX X = 0 := fun e => by rw [chkX_ok, ho] at e; cases e
    rw [show cntX X = 0 by unfold cntX; rw [ho]; rfl, show hiW 0 = 0 from rfl, show loW 0 = 0 from rfl]
    generalize chkX X = cc at *
    clear ho b
    go_enter Try.func19, Try.ntmps19
    go_wp2_with (fail)
    refine (hC _).mono ?_
    rintro e w1 ⟨rfl, hb1⟩
    go_wp2
    go_ret2
    exact ⟨rfl, by (repeat (first | assumption | exact Below.refl _ _ | refine Below.drew ?_ | refine bel_drewN ?_ _ | refine Below.setCell ?_ (by first | omega | (simp; done) | (simp; omega)) _ | refine Below.alloc ?_ (by first | omega | (simp; done) | (simp; omega)) _ | refine bel_of ?_ (by assumption)))⟩
  · rw [chkX_ok.2 ho] at hC
    rw [cntX_is ho]
    obtain ⟨oa, ob, oc, od, om⟩ := (okX_iff X).1 ho
    obtain ⟨x1, x2, x3, x4, x5, x6, x7, x8, x9, x0⟩ := b
    have lm := cntM_le X.m.1 X.m.2 x9 x0
    have lc := cnt_le (s := X.c) x6
    have ld := cnt_le (s := X.d) x8
    have la := cnt_le (s := X.a) x2
    have lb := cnt_le (s := X.b) x4
    have hR := fun W => rcountM X.m.1 X.m.2 W x9 x0
    have ec := cnt_int oc
    have ed := cnt_int od
    have ea := cnt_int oa
    have eb := cnt_int ob
    have fc := of_decide_eq_true oc
    have fd := of_decide_eq_true od
    have fa := of_decide_eq_true oa
    have fb := of_decide_eq_true ob
    have gc : (X.c.1 : Int) ≤ (X.c.2 : Int) := by omega
    have gd : (X.d.1 : Int) ≤ (X.d.2 : Int) := by omega
    have ga : (X.a.1 : Int) ≤ (X.a.2 : Int) := by omega
    have gb : (X.b.1 : Int) ≤ (X.b.2 : Int) := by omega
    generalize cntM X.m.1 X.m.2 = nm at *
    generalize cntI X.c = nc at *
    generalize cntI X.d = nd at *
    generalize cntI X.a = na at *
    generalize cntI X.b = nb at *
    have m1 := Nat.mul_le_mul lm lc
    have m2 := Nat.mul_le_mul m1 ld
    have m3 := Nat.mul_le_mul m2 la
    have m4 := Nat.mul_le_mul m3 lb
    have hT1 := fun W => rtimesX nm nc W (by omega) (Nat.lt_of_le_of_lt m1 (by decide))
    have hT2 := fun W => rtimesX (nm * nc) nd W (by omega) (Nat.lt_of_le_of_lt m2 (by decide))
    have hT3 := fun W => rtimesX (nm * nc * nd) na W (by omega) (Nat.lt_of_le_of_lt m3 (by decide))
    have hT4 := fun W => rtimesX (nm * nc * nd * na) nb W (by omega) (Nat.lt_of_le_of_lt m4 (by decide))
    rw [show hiW nm = 0 by unfold hiW; omega, show loW nm = nm by unfold loW; omega, ← ec] at hT1
    rw [← ed] at hT2
    rw [← ea] at hT3
    rw [← eb] at hT4
    have hnm : (nm : Int) ≤ 256 := by omega
    have hnm0 : (0 : Int) ≤ (nm : Int) := by omega
    clear m1 m2 m3 m4 lm lc ld la lb ec ed ea eb fc fd fa fb oa ob oc od om ho x1 x3 x5 x7 x9 x0
    generalize hiW (nm * nc * nd * na * nb) = H4 at *
    generalize loW (nm * nc * nd * na * nb) = L4 at *
    generalize hiW (nm * nc * nd * na) = H3 at *
    generalize loW (nm * nc * nd * na) = L3 at *
    generalize hiW (nm * nc * nd) = H2 at *
    generalize loW (nm * nc * nd) = L2 at *
    generalize hiW (nm * nc) = H1 at *
    generalize loW (nm * nc) = L1 at *
    go_enter Try.func19, Try.ntmps19
    go_wp2_with (fail)
    refine (hC _).mono ?_
    rintro e w1 ⟨rfl, hb1⟩
    have hX1 : Hid (w1.heap[w.heap.size]? = some (.cells #[.int .u32 (X.a.1 : Int), .int .u32 (X.a.2 : Int), .int .u32 (X.b.1 : Int), .int .u32 (X.b.2 : Int), .int .u16 (X.c.1 : Int), .int .u16 (X.c.2 : Int), .int .u16 (X.d.1 : Int), .int .u16 (X.d.2 : Int), .int .u8 (X.m.1 : Int), .int .u8 (X.m.2 : Int)] 33)) := blk_on (blk_new w _) hb1
    have hbl : Hid (Below w.heap.size w w1) := by show Below _ _ _; (repeat (first | assumption | exact Below.refl _ _ | refine Below.drew ?_ | refine bel_drewN ?_ _ | refine Below.setCell ?_ (by first | omega | (simp; done) | (simp; omega)) _ | refine Below.alloc ?_ (by first | omega | (simp; done) | (simp; omega)) _ | refine bel_of ?_ (by assumption)))
    clear hb1 hC
    obtain ⟨c0, c1, c2, c3, c4, c5, c6, c7, c8, c9⟩ := blk10 hX1.out
    go_wp2_with (fail)
    refine (hR _).mono ?_
    rintro e w2 ⟨rfl, hb2⟩
    have hX2 := blk_on hX1.out hb2
    have hbl2 : Hid (Below w.heap.size w w2) := hbl.out.trans (hb2.mono hbl.out.size)
    clear c0 c1 c2 c3 c4 c5 c6 c7 c8 c9 hb2 hR hX1
    obtain ⟨c0, c1, c2, c3, c4, c5, c6, c7, c8, c9⟩ := blk10 hX2
    clear hX2
    go_wp2_with (fail)
    refine (hT1 _).mono ?_
    rintro e w' ⟨rfl, hw⟩
    obtain rfl := hw.symm
    clear hw hT1
    go_wp2_with (fail)
    refine (hT2 _).mono ?_
    rintro e w' ⟨rfl, hw⟩
    obtain rfl := hw.symm
    clear hw hT2
    go_wp2_with (fail)
    refine (hT3 _).mono ?_
    rintro e w' ⟨rfl, hw⟩
    obtain rfl := hw.symm
    clear hw hT3
    go_wp2_with (fail)
    refine (hT4 _).mono ?_
    rintro e w' ⟨rfl, hw⟩
    obtain rfl := hw.symm
    clear hw hT4
    go_wp2
    go_ret2
    exact ⟨rfl, hbl2.out⟩
end Go.Proofs.Ythggiblkehcfaaa
