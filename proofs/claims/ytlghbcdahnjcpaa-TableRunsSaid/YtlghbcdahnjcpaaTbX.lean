/-
  The document's examples, as the law plays them. Written by tools/mkTbX.py.
-/
import Derived.Test.YtlghbcdahnjcpaaTbW
namespace Go.Proofs.Ytlghbcdahnjcpaa
open Go.RowKit
set_option linter.unusedVariables false
set_option linter.unusedSimpArgs false

set_option maxRecDepth 20000 in
set_option maxHeartbeats 8000000 in
theorem awakeT (w : World) : Calls Try.prog 12 #[] w fun e w' => e = .returned (.bool true) ∧ Below w.heap.size w w' := by
  have bb : ∀ i a : Int, I64 i → I64 a → BdR (allR i a) := allR_bd
  have n2 : I64 2 := by unfold I64; decide
  have b1 : BdR (allR 1 2) := bb 1 2 (by unfold I64; decide) n2
  have b2 : BdR (allR 2 3) := bb 2 3 n2 (by unfold I64; decide)
  have b3 : BdR (allR 3 3) := bb 3 3 (by unfold I64; decide) (by unfold I64; decide)
  have ke1 := fun W => everyC 1 2 W
  have ke2 := fun W => everyC 2 3 W
  have ke3 := fun W => everyC 3 3 W
  have ki1 : ∀ (t : Nat) (v : Value) (W : World), Tab W t v 2 1 [] → Calls Try.prog 25 #[.pointer (some ⟨t, 0, none⟩), .int .i64 0, .agg #[.int .i64 (allR 1 2).i, .int .u32 ((allR 1 2).s : Int), .int .i64 (allR 1 2).sl, .int .u32 ((allR 1 2).d : Int), .int .i64 (allR 1 2).dl, .int .u16 ((allR 1 2).p.1 : Int), .int .u16 ((allR 1 2).p.2 : Int), .int .u16 ((allR 1 2).q.1 : Int), .int .u16 ((allR 1 2).q.2 : Int), .int .u8 ((allR 1 2).m.1 : Int), .int .u8 ((allR 1 2).m.2 : Int), .int .i64 (allR 1 2).act]] W fun e w' => e = .returned (.int .i64 0) ∧ ∃ v', Tab w' t v' 2 1 [allR 1 2] ∧ Moved W w' t v v' := fun t v W h => by
    have := insertC t v 2 1 [] 0 (allR 1 2) W h (by decide) b1 n2
    rw [ex_1.1, ex_1.2] at this; exact this
  have ki2 : ∀ (t : Nat) (v : Value) (W : World), Tab W t v 2 1 [allR 1 2] → Calls Try.prog 25 #[.pointer (some ⟨t, 0, none⟩), .int .i64 0, .agg #[.int .i64 (allR 2 3).i, .int .u32 ((allR 2 3).s : Int), .int .i64 (allR 2 3).sl, .int .u32 ((allR 2 3).d : Int), .int .i64 (allR 2 3).dl, .int .u16 ((allR 2 3).p.1 : Int), .int .u16 ((allR 2 3).p.2 : Int), .int .u16 ((allR 2 3).q.1 : Int), .int .u16 ((allR 2 3).q.2 : Int), .int .u8 ((allR 2 3).m.1 : Int), .int .u8 ((allR 2 3).m.2 : Int), .int .i64 (allR 2 3).act]] W fun e w' => e = .returned (.int .i64 0) ∧ ∃ v', Tab w' t v' 2 1 [allR 2 3, allR 1 2] ∧ Moved W w' t v v' := fun t v W h => by
    have := insertC t v 2 1 [allR 1 2] 0 (allR 2 3) W h (Nat.le_of_ble_eq_true rfl) b2 n2
    rw [ex_2.1, ex_2.2] at this; exact this
  have ki3 : ∀ (t : Nat) (v : Value) (W : World), Tab W t v 2 1 [allR 2 3, allR 1 2] → Calls Try.prog 25 #[.pointer (some ⟨t, 0, none⟩), .int .i64 0, .agg #[.int .i64 (allR 3 3).i, .int .u32 ((allR 3 3).s : Int), .int .i64 (allR 3 3).sl, .int .u32 ((allR 3 3).d : Int), .int .i64 (allR 3 3).dl, .int .u16 ((allR 3 3).p.1 : Int), .int .u16 ((allR 3 3).p.2 : Int), .int .u16 ((allR 3 3).q.1 : Int), .int .u16 ((allR 3 3).q.2 : Int), .int .u8 ((allR 3 3).m.1 : Int), .int .u8 ((allR 3 3).m.2 : Int), .int .i64 (allR 3 3).act]] W fun e w' => e = .returned (.int .i64 113) ∧ ∃ v', Tab w' t v' 2 1 [allR 2 3, allR 1 2] ∧ Moved W w' t v v' := fun t v W h => by
    have := insertC t v 2 1 [allR 2 3, allR 1 2] 0 (allR 3 3) W h (Nat.le_of_ble_eq_true rfl) b3 n2
    rw [ex_3.1, ex_3.2] at this; exact this
  have km1 : ∀ (t : Nat) (v : Value) (W : World), Tab W t v 2 1 [allR 2 3, allR 1 2] → Calls Try.prog 19 #[.pointer (some ⟨t, 0, none⟩), .agg #[.int .u32 0, .int .u32 0, .int .u16 0, .int .u16 0, .int .u8 0]] W fun e w' => e = .returned (.tuple #[.agg #[.bool true, .int .i64 (allR 2 3).i, .int .i64 (allR 2 3).act], .int .i64 0]) ∧ Below W.heap.size W w' := fun t v W h => by
    have := matchT t v 2 1 [allR 2 3, allR 1 2] ⟨0, 0, 0, 0, 0⟩ W h (Nat.le_of_ble_eq_true rfl) (ex_bd2 _ _ b2 b1) h0_ok
    rw [ex_4] at this; exact this
  have kv : ∀ (t : Nat) (v : Value) (W : World), Tab W t v 2 1 [allR 2 3, allR 1 2] → Calls Try.prog 28 #[.pointer (some ⟨t, 0, none⟩), .int .i64 2, .int .i64 1] W fun e w' => e = .returned (.int .i64 0) ∧ ∃ v', Tab w' t v' 2 1 [allR 1 2, allR 2 3] ∧ Moved W w' t v v' := fun t v W h => by
    have := moveC t v 2 1 [allR 2 3, allR 1 2] 2 1 W h (Nat.le_of_ble_eq_true rfl)
    rw [ex_5.1, ex_5.2] at this; exact this
  have km2 : ∀ (t : Nat) (v : Value) (W : World), Tab W t v 2 1 [allR 1 2, allR 2 3] → Calls Try.prog 19 #[.pointer (some ⟨t, 0, none⟩), .agg #[.int .u32 9, .int .u32 0, .int .u16 0, .int .u16 0, .int .u8 0]] W fun e w' => e = .returned (.tuple #[.agg #[.bool true, .int .i64 (allR 1 2).i, .int .i64 (allR 1 2).act], .int .i64 0]) ∧ Below W.heap.size W w' := fun t v W h => by
    have := matchT t v 2 1 [allR 1 2, allR 2 3] ⟨9, 0, 0, 0, 0⟩ W h (Nat.le_of_ble_eq_true rfl) (ex_bd2 _ _ b1 b2) h9_ok
    rw [ex_6] at this; exact this
  have kf1 : ∀ (t : Nat) (v : Value) (W : World), Tab W t v 2 1 [allR 1 2, allR 2 3] → Calls Try.prog 24 #[.pointer (some ⟨t, 0, none⟩), .int .i64 1] W fun e w' => e = .returned (.int .i64 0) ∧ Below W.heap.size W w' := fun t v W h => by
    have := findC t v 2 1 [allR 1 2, allR 2 3] 1 W h (Nat.le_of_ble_eq_true rfl)
    rw [ex_7.1] at this; exact this
  have kf9 : ∀ (t : Nat) (v : Value) (W : World), Tab W t v 2 1 [allR 1 2, allR 2 3] → Calls Try.prog 24 #[.pointer (some ⟨t, 0, none⟩), .int .i64 9] W fun e w' => e = .returned (.int .i64 (-1)) ∧ Below W.heap.size W w' := fun t v W h => by
    have := findC t v 2 1 [allR 1 2, allR 2 3] 9 W h (Nat.le_of_ble_eq_true rfl)
    rw [ex_7.2] at this; exact this
  clear b1 b2 b3 bb
  have r2 : Hid ((allR 2 3).i = 2 ∧ (allR 2 3).act = 3) := ⟨rfl, rfl⟩
  have r1 : Hid ((allR 1 2).i = 1 ∧ (allR 1 2).act = 2) := ⟨rfl, rfl⟩
  generalize allR 1 2 = R1 at *
  generalize allR 2 3 = R2 at *
  generalize allR 3 3 = R3 at *
  go_enter Try.func12, Try.ntmps12
  go_wp2_with (fail)
  have X1 := bel_a0 w
  refine (exampleC _).mono ?_
  rintro e W1 ⟨rfl, hb⟩
  have HB1 : Hid (Below w.heap.size w W1) := bel_step (Below.refl _ _) X1 hb
  clear X1 hb
  go_wp2_with (fail)
  have X2 := bel_a0 W1
  refine (newOk (exC 2) (exC_bd 2 (by unfold I64; decide)) (exC_ok 2 (by decide)) _).mono ?_
  rintro e W2 ⟨t, rfl, hT, ht, hb⟩
  have HB2 : Hid (Below w.heap.size w W2) := bel_step (HB1.out) X2 hb
  have HT2 : Hid (Tab W2 t (.slice none 0 0) 2 1 []) := hT
  have Htw : Hid (w.heap.size ≤ t) := Nat.le_trans (bel_step (HB1.out) X2 (Below.refl _ _)).size ht
  have HG2 : Hid (∀ k, (Value.slice none 0 0).ownBlock = some k → w.heap.size ≤ k) := fun k e => by cases e
  clear X2 hb hT ht HB1
  go_wp2_with (fail)
  have X3 := bel_a0 W2
  have T3 := HT2.out.on X3
  refine (ke1 _).mono ?_
  rintro e W3 ⟨rfl, hb⟩
  have HB3 : Hid (Below w.heap.size w W3) := bel_step (HB2.out) X3 hb
  have HT3 : Hid (Tab W3 t (.slice none 0 0) 2 1 []) := T3.on hb
  clear X3 hb T3 HB2
  clear HT2
  go_wp2_with (fail)
  have X4 := bel_a0 W3
  have T4 := HT3.out.on X4
  refine (ki1 _ _ _ T4).mono ?_
  rintro e W4 ⟨rfl, v4, hT, hm⟩
  have HT4 : Hid (Tab W4 t v4 2 1 [R1]) := hT
  have Hq4 := (bel_step (HB3.out) X4 (Below.refl _ _))
  have HB4 : Hid (Below w.heap.size w W4) := hm.below' Hq4 Hq4.size Htw.out HG2.out
  have HG4 : Hid (∀ k, v4.ownBlock = some k → w.heap.size ≤ k) := hm.ge Hq4.size HG2.out
  clear X4 hm hT Hq4 T4 HB3
  clear HT3 HG2
  go_wp2_with (fail)
  have X5 := bel_a0 W4
  have T5 := HT4.out.on X5
  refine (ke2 _).mono ?_
  rintro e W5 ⟨rfl, hb⟩
  have HB5 : Hid (Below w.heap.size w W5) := bel_step (HB4.out) X5 hb
  have HT5 : Hid (Tab W5 t v4 2 1 [R1]) := T5.on hb
  clear X5 hb T5 HB4
  clear HT4
  go_wp2_with (fail)
  have X6 := bel_a0 W5
  have T6 := HT5.out.on X6
  refine (ki2 _ _ _ T6).mono ?_
  rintro e W6 ⟨rfl, v6, hT, hm⟩
  have HT6 : Hid (Tab W6 t v6 2 1 [R2, R1]) := hT
  have Hq6 := (bel_step (HB5.out) X6 (Below.refl _ _))
  have HB6 : Hid (Below w.heap.size w W6) := hm.below' Hq6 Hq6.size Htw.out HG4.out
  have HG6 : Hid (∀ k, v6.ownBlock = some k → w.heap.size ≤ k) := hm.ge Hq6.size HG4.out
  clear X6 hm hT Hq6 T6 HB5
  clear HT5 HG4
  go_wp2_with (fail)
  have X7 := bel_a0 W6
  have T7 := HT6.out.on X7
  refine (ke3 _).mono ?_
  rintro e W7 ⟨rfl, hb⟩
  have HB7 : Hid (Below w.heap.size w W7) := bel_step (HB6.out) X7 hb
  have HT7 : Hid (Tab W7 t v6 2 1 [R2, R1]) := T7.on hb
  clear X7 hb T7 HB6
  clear HT6
  go_wp2_with (fail)
  have X8 := bel_a0 W7
  have T8 := HT7.out.on X8
  refine (ki3 _ _ _ T8).mono ?_
  rintro e W8 ⟨rfl, v8, hT, hm⟩
  have HT8 : Hid (Tab W8 t v8 2 1 [R2, R1]) := hT
  have Hq8 := (bel_step (HB7.out) X8 (Below.refl _ _))
  have HB8 : Hid (Below w.heap.size w W8) := hm.below' Hq8 Hq8.size Htw.out HG6.out
  have HG8 : Hid (∀ k, v8.ownBlock = some k → w.heap.size ≤ k) := hm.ge Hq8.size HG6.out
  clear X8 hm hT Hq8 T8 HB7
  clear HT7 HG6
  go_wp2_with (fail)
  have X9 := bel_a0 W8
  have T9 := HT8.out.on X9
  refine (km1 _ _ _ T9).mono ?_
  rintro e W9 ⟨rfl, hb⟩
  have HB9 : Hid (Below w.heap.size w W9) := bel_step (HB8.out) X9 hb
  have HT9 : Hid (Tab W9 t v8 2 1 [R2, R1]) := T9.on hb
  clear X9 hb T9 HB8
  clear HT8
  go_wp2_with (fail)
  have X10 := bel_a1 W9 (.cells #[.bool true, .int .i64 R2.i, .int .i64 R2.act] 56)
  have Na10 : (W9.alloc (.cells #[.bool true, .int .i64 R2.i, .int .i64 R2.act] 56)).heap[W9.heap.size]? = some (.cells #[.bool true, .int .i64 R2.i, .int .i64 R2.act] 56) := (blk_new W9 (.cells #[.bool true, .int .i64 R2.i, .int .i64 R2.act] 56))
  have T10 := HT9.out.on X10
  refine (kv _ _ _ T10).mono ?_
  rintro e W10 ⟨rfl, v10, hT, hm⟩
  have HT10 : Hid (Tab W10 t v10 2 1 [R1, R2]) := hT
  have Hq10 := (bel_step (HB9.out) X10 (Below.refl _ _))
  have HB10 : Hid (Below w.heap.size w W10) := hm.below' Hq10 Hq10.size Htw.out HG8.out
  have HG10 : Hid (∀ k, v10.ownBlock = some k → w.heap.size ≤ k) := hm.ge Hq10.size HG8.out
  have Qa10 : Kb (W9.alloc (.cells #[.bool true, .int .i64 R2.i, .int .i64 R2.act] 56)) t v8 (W9.heap.size) (.cells #[.bool true, .int .i64 R2.i, .int .i64 R2.act] 56) := ⟨Na10, by have := HT9.out.lt; omega, fun e => by have := HT9.out.own e; omega⟩
  have Ka10 : Hid (Kb W10 t v10 (W9.heap.size) (.cells #[.bool true, .int .i64 R2.i, .int .i64 R2.act] 56)) := Qa10.moved hm
  clear X10 hm hT Hq10 T10 Na10 Qa10 HB9
  clear HT9 HG8
  go_wp2_with (fail)
  have X11 := bel_a0 W10
  have T11 := HT10.out.on X11
  refine (km2 _ _ _ T11).mono ?_
  rintro e W11 ⟨rfl, hb⟩
  have HB11 : Hid (Below w.heap.size w W11) := bel_step (HB10.out) X11 hb
  have HT11 : Hid (Tab W11 t v10 2 1 [R1, R2]) := T11.on hb
  have Ka11 : Hid (Kb W11 t v10 (W9.heap.size) (.cells #[.bool true, .int .i64 R2.i, .int .i64 R2.act] 56)) := (Ka10.out.on X11).on hb
  clear X11 hb T11 HB10
  clear HT10
  try clear Ka10
  have NB := blk_new W11 (.cells #[.bool true, .int .i64 R1.i, .int .i64 R1.act] 56)
  have Ka := blk_alloc Ka11.out.1 (.cells #[.bool true, .int .i64 R1.i, .int .i64 R1.act] 56)
  have XT := HT11.out.on (bel_a1 W11 (.cells #[.bool true, .int .i64 R1.i, .int .i64 R1.act] 56))
  have XB := bel_step HB11.out (bel_a1 W11 (.cells #[.bool true, .int .i64 R1.i, .int .i64 R1.act] 56)) (Below.refl _ _)
  rw [r2.out.1, r2.out.2] at Ka
  rw [r1.out.1, r1.out.2] at NB
  go_upto_region 10 with (fail)
  rw [r1.out.1, r1.out.2] at *
  generalize W11.alloc _ = W9 at *
  obtain ⟨a0, a1, a2⟩ := blk3 Ka
  obtain ⟨z0, z1, z2⟩ := blk3 NB
  have HXT : Hid (Tab W9 t v10 2 1 [R1, R2]) := XT
  have HXB : Hid (Below w.heap.size w W9) := XB
  clear Ka NB XT XB
  go_wp2_with (fail)
  refine (kf1 _ _ _ HXT.out).mono ?_
  rintro e W10 ⟨rfl, hb⟩
  have HT10 : Hid (Tab W10 t v10 2 1 [R1, R2]) := HXT.out.on hb
  have HB10 : Hid (Below w.heap.size w W10) := HXB.out.trans (hb.mono HXB.out.size)
  clear hb
  go_wp2_with (fail)
  refine (kf9 _ _ _ HT10.out).mono ?_
  rintro e W11 ⟨rfl, hb⟩
  have HB11 : Hid (Below w.heap.size w W11) := HB10.out.trans (hb.mono HB10.out.size)
  clear hb
  go_wp2_with (fail)
  go_ret
  exact ⟨ret_bool (by simp), HB11.out⟩
end Go.Proofs.Ytlghbcdahnjcpaa
