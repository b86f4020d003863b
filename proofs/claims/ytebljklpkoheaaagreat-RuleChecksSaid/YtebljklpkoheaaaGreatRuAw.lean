/-
  The document's rule of all headers, the chapter's example, the document's examples (awake). Written by tools/mkRuAw.py.
-/
import Derived.Test.YtebljklpkoheaaaGreatRuD
namespace Go.Proofs.YtebljklpkoheaaaGreat
open Go.RowKit
set_option linter.unusedVariables false
set_option linter.unusedSimpArgs false

set_option maxHeartbeats 1000000 in
theorem rallRC (i a : Int) (w : World) :
    Calls Tryz.prog 23 #[.int .i64 i, .int .i64 a] w fun e w' => e = .returned (.agg #[.int .i64 (allR i a).i, .int .u32 ((allR i a).s : Int), .int .i64 (allR i a).sl, .int .u32 ((allR i a).d : Int), .int .i64 (allR i a).dl, .int .u16 ((allR i a).p.1 : Int), .int .u16 ((allR i a).p.2 : Int), .int .u16 ((allR i a).q.1 : Int), .int .u16 ((allR i a).q.2 : Int), .int .u8 ((allR i a).m.1 : Int), .int .u8 ((allR i a).m.2 : Int), .int .i64 (allR i a).act]) ∧ Below w.heap.size w w' := by
  go_enter Tryz.func23, Tryz.ntmps23
  go_wp2_with (fail)
  exact bodyPost_ret (v := .agg #[.int .i64 i, .int .u32 0, .int .i64 0, .int .u32 0, .int .i64 0, .int .u16 0, .int .u16 65535, .int .u16 0, .int .u16 65535, .int .u8 0, .int .u8 0, .int .i64 a]) (by simp [results, Tryz.results23, go_sem]) rfl ⟨rfl, by (repeat (first | assumption | exact Below.refl _ _ | refine Below.drew ?_ | refine bel_drewN ?_ _ | refine Below.setCell ?_ (by first | omega | (simp; done) | (simp; omega)) _ | refine Below.alloc ?_ (by first | omega | (simp; done) | (simp; omega)) _ | refine bel_of ?_ (by assumption)))⟩
set_option maxRecDepth 20000 in
set_option maxHeartbeats 2000000 in
theorem webC (w : World) :
    Calls Tryz.prog 40 #[] w fun e w' => e = .returned (.agg #[.int .i64 1, .int .u32 167772160, .int .i64 8, .int .u32 0, .int .i64 0, .int .u16 0, .int .u16 65535, .int .u16 80, .int .u16 81, .int .u8 6, .int .u8 255, .int .i64 2]) ∧ Below w.heap.size w w' := by
  have hA : ∀ W, Calls Tryz.prog 23 #[.int .i64 1, .int .i64 2] W fun e w' => e = .returned (.agg #[.int .i64 1, .int .u32 0, .int .i64 0, .int .u32 0, .int .i64 0, .int .u16 0, .int .u16 65535, .int .u16 0, .int .u16 65535, .int .u8 0, .int .u8 0, .int .i64 2]) ∧ Below W.heap.size W w' := fun W => rallRC 1 2 W
  go_enter Tryz.func40, Tryz.ntmps40
  go_wp2_with (fail)
  refine (hA _).mono ?_
  rintro e w1 ⟨rfl, hb1⟩
  have H0 : Hid (w1.heap[w.heap.size]? = some (.cells #[.int .i64 0, .int .u32 0, .int .i64 0, .int .u32 0, .int .i64 0, .int .u16 0, .int .u16 0, .int .u16 0, .int .u16 0, .int .u8 0, .int .u8 0, .int .i64 0] 32)) := blk_on (blk_new w _) hb1
  have hbl : Hid (Below w.heap.size w w1) := bel_step (Below.refl _ _) (bel_a1 _ _) hb1
  clear hb1 hA
  have hl := blk_lt H0.out
  have hn : w.heap.size ≠ w1.heap.size := by omega
  go_upto_region 2 with (fail)
  go_wp2_with (first | (refine wpList_store_blk rfl 24 (.tmp 4) (.tmp 3) rfl (w1.heap.size) 1 #[.int .u32 167772160, .int .i64 8] #[.int .i64 1, .int .u32 167772160, .int .i64 8, .int .u32 0, .int .i64 0, .int .u16 0, .int .u16 65535, .int .u16 0, .int .u16 65535, .int .u8 0, .int .u8 0, .int .i64 2] rfl rfl 32 _ (blk_new w1 _) (Nat.le_of_ble_eq_true rfl) rfl (by kernel_rfl) rfl ?_; intro w2 hw2 how2) | (refine wpList_store_blk rfl 27 (.tmp 6) (.tmp 5) rfl (w1.heap.size) 7 #[.int .u16 80, .int .u16 81] #[.int .i64 1, .int .u32 167772160, .int .i64 8, .int .u32 0, .int .i64 0, .int .u16 0, .int .u16 65535, .int .u16 80, .int .u16 81, .int .u8 0, .int .u8 0, .int .i64 2] rfl rfl 32 _ hw2 (Nat.le_of_ble_eq_true rfl) rfl (by kernel_rfl) rfl ?_; intro w3 hw3 how3) | (refine wpList_store_blk rfl 29 (.tmp 8) (.tmp 7) rfl (w1.heap.size) 9 #[.int .u8 6, .int .u8 255] #[.int .i64 1, .int .u32 167772160, .int .i64 8, .int .u32 0, .int .i64 0, .int .u16 0, .int .u16 65535, .int .u16 80, .int .u16 81, .int .u8 6, .int .u8 255, .int .i64 2] rfl rfl 32 _ hw3 (Nat.le_of_ble_eq_true rfl) rfl (by kernel_rfl) rfl ?_; intro w4 hw4 how4; obtain ⟨c0, c1, c2, c3, c4, c5, c6, c7, c8, c9, c10, c11⟩ := blk12 hw4; have z4 : w4.heap[w.heap.size]? = some (.cells #[.int .i64 0, .int .u32 0, .int .i64 0, .int .u32 0, .int .i64 0, .int .u16 0, .int .u16 0, .int .u16 0, .int .u16 0, .int .u8 0, .int .u8 0, .int .i64 0] 32) := (how4.block _ hn).trans ((how3.block _ hn).trans ((how2.block _ hn).trans (blk_alloc H0.out _)))) | (refine wpList_store_blk rfl 32 (.tmp 0) (.tmp 9) rfl (w.heap.size) 0 #[.int .i64 1, .int .u32 167772160, .int .i64 8, .int .u32 0, .int .i64 0, .int .u16 0, .int .u16 65535, .int .u16 80, .int .u16 81, .int .u8 6, .int .u8 255, .int .i64 2] #[.int .i64 1, .int .u32 167772160, .int .i64 8, .int .u32 0, .int .i64 0, .int .u16 0, .int .u16 65535, .int .u16 80, .int .u16 81, .int .u8 6, .int .u8 255, .int .i64 2] rfl rfl 32 _ z4 (Nat.le_of_ble_eq_true rfl) rfl (by kernel_rfl) rfl ?_; intro w5 hw5 how5))
  have hbl9 : Below w.heap.size w w5 := ((((bel_step hbl.out (bel_a1 _ _) (Below.refl _ _)).trans (how2.below (Nat.le_of_lt hl))).trans (how3.below (Nat.le_of_lt hl))).trans (how4.below (Nat.le_of_lt hl))).trans (how5.below (Nat.le_refl _))
  exact bodyPost_ret (results_blk Tryz.results40 rfl hw5 Tryz.underlying32 rfl (by kernel_rfl)) rfl ⟨rfl, hbl9⟩
def webR : Ru := ⟨1, 167772160, 8, 0, 0, (0, 65535), (80, 81), (6, 255), 2⟩
def webZ : Ru := ⟨0, 167772160, 8, 0, 0, (0, 65535), (80, 81), (6, 255), 2⟩
def webH : Hd := ⟨167772160, 0, 0, 80, 6⟩
theorem web_bd : BdR webR := by unfold BdR I64 webR; simp
theorem webZ_bd : BdR webZ := by unfold BdR I64 webZ; simp
theorem webH_ok : OkH webH := by unfold OkH webH; simp
theorem zeroH_ok : OkH ⟨0, 0, 0, 0, 0⟩ := by unfold OkH; simp
theorem all_bd : BdR (allR 2 1) := by unfold BdR I64 allR; simp
theorem web_errs : errs webR = (0, 0) ∧ errs webZ = (80, 1) := by decide +kernel
theorem web_meet : meetR webR (allR 2 1) = webH ∧ bothR webR (allR 2 1) = true := by decide +kernel
theorem web_cnt : hiW (cntR webR) = 512 ∧ loW (cntR webR) = 0 := by decide +kernel
theorem web_box : boxA webR = ⟨(167772160, 184549375), (0, 4294967295), (0, 65535), (80, 81), (6, 255)⟩ := by decide +kernel
theorem web_match : matchR webR webH = true ∧ matchR webR ⟨0, 0, 0, 0, 0⟩ = false := by decide +kernel
theorem web_wi : wiR webR (allR 2 1) = true ∧ wiR (allR 2 1) webR = false := by decide +kernel
set_option maxRecDepth 20000 in
set_option maxHeartbeats 4000000 in
theorem awakeR (w : World) : Calls Tryz.prog 15 #[] w fun e w' => e = .returned (.bool true) ∧ Below w.heap.size w w' := by
  have hA : ∀ W, Calls Tryz.prog 22 #[.int .i64 2, .int .i64 1] W fun e w' => e = .returned (.agg #[.int .i64 2, .int .u32 0, .int .i64 0, .int .u32 0, .int .i64 0, .int .u16 0, .int .u16 65535, .int .u16 0, .int .u16 65535, .int .u8 0, .int .u8 0, .int .i64 1]) ∧ Below W.heap.size W w' := fun W => by
    have h := allRC 2 1 W
    skip
    exact h
  have hM : ∀ W, Calls Tryz.prog 18 #[.agg #[.int .i64 1, .int .u32 167772160, .int .i64 8, .int .u32 0, .int .i64 0, .int .u16 0, .int .u16 65535, .int .u16 80, .int .u16 81, .int .u8 6, .int .u8 255, .int .i64 2], .agg #[.int .i64 2, .int .u32 0, .int .i64 0, .int .u32 0, .int .i64 0, .int .u16 0, .int .u16 65535, .int .u16 0, .int .u16 65535, .int .u8 0, .int .u8 0, .int .i64 1]] W fun e w' => e = .returned (.tuple #[.agg #[.int .u32 167772160, .int .u32 0, .int .u16 0, .int .u16 80, .int .u8 6], .bool true]) ∧ Below W.heap.size W w' := fun W => by
    have h := meetsC webR (allR 2 1) W web_bd all_bd
    rw [web_meet.1, web_meet.2] at h
    exact h
  have hC : ∀ W, Calls Tryz.prog 9 #[.agg #[.int .i64 1, .int .u32 167772160, .int .i64 8, .int .u32 0, .int .i64 0, .int .u16 0, .int .u16 65535, .int .u16 80, .int .u16 81, .int .u8 6, .int .u8 255, .int .i64 2]] W fun e w' => e = .returned (.tuple #[.int .i64 0, .int .i64 0]) ∧ Below W.heap.size W w' := fun W => by
    have h := checkRC webR W web_bd
    rw [web_errs.1] at h
    exact h
  have hZ : ∀ W, Calls Tryz.prog 9 #[.agg #[.int .i64 0, .int .u32 167772160, .int .i64 8, .int .u32 0, .int .i64 0, .int .u16 0, .int .u16 65535, .int .u16 80, .int .u16 81, .int .u8 6, .int .u8 255, .int .i64 2]] W fun e w' => e = .returned (.tuple #[.int .i64 80, .int .i64 1]) ∧ Below W.heap.size W w' := fun W => by
    have h := checkRC webZ W webZ_bd
    rw [web_errs.2] at h
    exact h
  have hN : ∀ W, Calls Tryz.prog 13 #[.agg #[.int .i64 1, .int .u32 167772160, .int .i64 8, .int .u32 0, .int .i64 0, .int .u16 0, .int .u16 65535, .int .u16 80, .int .u16 81, .int .u8 6, .int .u8 255, .int .i64 2]] W fun e w' => e = .returned (.tuple #[.int .u64 512, .int .u64 0]) ∧ Below W.heap.size W w' := fun W => by
    have h := countRC webR W web_bd
    rw [web_cnt.1, web_cnt.2] at h
    exact h
  have hB : ∀ W, Calls Tryz.prog 11 #[.agg #[.int .i64 1, .int .u32 167772160, .int .i64 8, .int .u32 0, .int .i64 0, .int .u16 0, .int .u16 65535, .int .u16 80, .int .u16 81, .int .u8 6, .int .u8 255, .int .i64 2]] W fun e w' => e = .returned (.tuple #[.agg #[.int .u32 167772160, .int .u32 184549375, .int .u32 0, .int .u32 4294967295, .int .u16 0, .int .u16 65535, .int .u16 80, .int .u16 81, .int .u8 6, .int .u8 255], .int .i64 0]) ∧ Below W.heap.size W w' := fun W => by
    have h := boxC webR W web_bd
    rw [web_box, web_errs.1] at h
    exact h
  have k1 : ∀ W, Calls Tryz.prog 16 #[.agg #[.int .i64 1, .int .u32 167772160, .int .i64 8, .int .u32 0, .int .i64 0, .int .u16 0, .int .u16 65535, .int .u16 80, .int .u16 81, .int .u8 6, .int .u8 255, .int .i64 2], .agg #[.int .u32 167772160, .int .u32 0, .int .u16 0, .int .u16 80, .int .u8 6]] W fun e w' => e = .returned (.bool true) ∧ Below W.heap.size W w' := fun W => by
    have h := matchC webR webH W web_bd webH_ok
    rw [web_match.1] at h
    exact h
  have k2 : ∀ W, Calls Tryz.prog 16 #[.agg #[.int .i64 1, .int .u32 167772160, .int .i64 8, .int .u32 0, .int .i64 0, .int .u16 0, .int .u16 65535, .int .u16 80, .int .u16 81, .int .u8 6, .int .u8 255, .int .i64 2], .agg #[.int .u32 0, .int .u32 0, .int .u16 0, .int .u16 0, .int .u8 0]] W fun e w' => e = .returned (.bool false) ∧ Below W.heap.size W w' := fun W => by
    have h := matchC webR ⟨0, 0, 0, 0, 0⟩ W web_bd zeroH_ok
    rw [web_match.2] at h
    exact h
  have k3 : ∀ W, Calls Tryz.prog 20 #[.agg #[.int .i64 1, .int .u32 167772160, .int .i64 8, .int .u32 0, .int .i64 0, .int .u16 0, .int .u16 65535, .int .u16 80, .int .u16 81, .int .u8 6, .int .u8 255, .int .i64 2], .agg #[.int .i64 2, .int .u32 0, .int .i64 0, .int .u32 0, .int .i64 0, .int .u16 0, .int .u16 65535, .int .u16 0, .int .u16 65535, .int .u8 0, .int .u8 0, .int .i64 1]] W fun e w' => e = .returned (.bool true) ∧ Below W.heap.size W w' := fun W => by
    have h := withinRC webR (allR 2 1) W web_bd all_bd
    rw [web_wi.1] at h
    exact h
  have k4 : ∀ W, Calls Tryz.prog 20 #[.agg #[.int .i64 2, .int .u32 0, .int .i64 0, .int .u32 0, .int .i64 0, .int .u16 0, .int .u16 65535, .int .u16 0, .int .u16 65535, .int .u8 0, .int .u8 0, .int .i64 1], .agg #[.int .i64 1, .int .u32 167772160, .int .i64 8, .int .u32 0, .int .i64 0, .int .u16 0, .int .u16 65535, .int .u16 80, .int .u16 81, .int .u8 6, .int .u8 255, .int .i64 2]] W fun e w' => e = .returned (.bool false) ∧ Below W.heap.size W w' := fun W => by
    have h := withinRC (allR 2 1) webR W all_bd web_bd
    rw [web_wi.2] at h
    exact h
  go_enter Tryz.func15, Tryz.ntmps15
  go_wp2_with (fail)
  refine (webC _).mono ?_
  rintro e w1 ⟨rfl, hb1⟩
  have hbl1 : Hid (Below w.heap.size w w1) := bel_step (Below.refl _ _) (bel_a0 _) hb1
  clear hb1
  have HLW : Hid (w.heap.size ≤ w1.heap.size) := hbl1.out.size
  go_wp2_with (fail)
  refine (hA _).mono ?_
  rintro e w2 ⟨rfl, hb2⟩
  have GW : Hid (w2.heap[w1.heap.size]? = some (.cells #[.int .i64 1, .int .u32 167772160, .int .i64 8, .int .u32 0, .int .i64 0, .int .u16 0, .int .u16 65535, .int .u16 80, .int .u16 81, .int .u8 6, .int .u8 255, .int .i64 2] 32)) := blk_on (blk_new w1 (.cells #[.int .i64 1, .int .u32 167772160, .int .i64 8, .int .u32 0, .int .i64 0, .int .u16 0, .int .u16 65535, .int .u16 80, .int .u16 81, .int .u8 6, .int .u8 255, .int .i64 2] 32)) hb2
  have HO2 : Hid (w1.heap.size < w2.heap.size) := blk_lt GW.out
  have hbl2 : Hid (Below w.heap.size w w2) := bel_step hbl1.out (bel_a1 _ _) hb2
  clear hb2 hbl1
  have HW := GW
  clear GW
  have lW := blk_lt HW.out
  have nW : ¬ w1.heap.size = w2.heap.size := by omega
  obtain ⟨W_0, W_1, W_2, W_3, W_4, W_5, W_6, W_7, W_8, W_9, W_10, W_11⟩ := blk12 HW.out
  go_wp2_with (fail)
  refine (hM _).mono ?_
  rintro e w3 ⟨rfl, hb3⟩
  have GW : Hid (w3.heap[w1.heap.size]? = some (.cells #[.int .i64 1, .int .u32 167772160, .int .i64 8, .int .u32 0, .int .i64 0, .int .u16 0, .int .u16 65535, .int .u16 80, .int .u16 81, .int .u8 6, .int .u8 255, .int .i64 2] 32)) := blk_on (blk_alloc (blk_alloc HW.out _) _) hb3
  have GA : Hid (w3.heap[w2.heap.size]? = some (.cells #[.int .i64 2, .int .u32 0, .int .i64 0, .int .u32 0, .int .i64 0, .int .u16 0, .int .u16 65535, .int .u16 0, .int .u16 65535, .int .u8 0, .int .u8 0, .int .i64 1] 32)) := blk_on (blk_alloc (blk_new w2 (.cells #[.int .i64 2, .int .u32 0, .int .i64 0, .int .u32 0, .int .i64 0, .int .u16 0, .int .u16 65535, .int .u16 0, .int .u16 65535, .int .u8 0, .int .u8 0, .int .i64 1] 32)) _) hb3
  have GH : Hid (w3.heap[w2.heap.size + 1]? = some (.cells #[.int .u32 167772160, .int .u32 0, .int .u16 0, .int .u16 80, .int .u8 6] 34)) := blk_on (by simpa using blk_new (w2.alloc (.cells #[.int .i64 2, .int .u32 0, .int .i64 0, .int .u32 0, .int .i64 0, .int .u16 0, .int .u16 65535, .int .u16 0, .int .u16 65535, .int .u8 0, .int .u8 0, .int .i64 1] 32)) (.cells #[.int .u32 167772160, .int .u32 0, .int .u16 0, .int .u16 80, .int .u8 6] 34)) hb3
  have HO3 : Hid (w2.heap.size + 1 < w3.heap.size) := blk_lt GH.out
  have hbl3 : Hid (Below w.heap.size w w3) := bel_step hbl2.out (bel_a2 _ _ _) hb3
  clear HW W_0 W_1 W_2 W_3 W_4 W_5 W_6 W_7 W_8 W_9 W_10 W_11 lW nW hb3 hbl2
  have HW := GW
  clear GW
  have HA := GA
  clear GA
  have HH := GH
  clear GH
  have lW := blk_lt HW.out
  have nW : ¬ w1.heap.size = w3.heap.size := by omega
  have lA := blk_lt HA.out
  have nA : ¬ w2.heap.size = w3.heap.size := by omega
  have lH := blk_lt HH.out
  have nH : ¬ w2.heap.size + 1 = w3.heap.size := by omega
  obtain ⟨W_0, W_1, W_2, W_3, W_4, W_5, W_6, W_7, W_8, W_9, W_10, W_11⟩ := blk12 HW.out
  go_wp2_with (fail)
  refine (hC _).mono ?_
  rintro e w4 ⟨rfl, hb4⟩
  have GW : Hid (w4.heap[w1.heap.size]? = some (.cells #[.int .i64 1, .int .u32 167772160, .int .i64 8, .int .u32 0, .int .i64 0, .int .u16 0, .int .u16 65535, .int .u16 80, .int .u16 81, .int .u8 6, .int .u8 255, .int .i64 2] 32)) := blk_on (blk_alloc HW.out _) hb4
  have GA : Hid (w4.heap[w2.heap.size]? = some (.cells #[.int .i64 2, .int .u32 0, .int .i64 0, .int .u32 0, .int .i64 0, .int .u16 0, .int .u16 65535, .int .u16 0, .int .u16 65535, .int .u8 0, .int .u8 0, .int .i64 1] 32)) := blk_on (blk_alloc HA.out _) hb4
  have GH : Hid (w4.heap[w2.heap.size + 1]? = some (.cells #[.int .u32 167772160, .int .u32 0, .int .u16 0, .int .u16 80, .int .u8 6] 34)) := blk_on (blk_alloc HH.out _) hb4
  have GM : Hid (w4.heap[w3.heap.size]? = some (.cells #[.int .u32 167772160, .int .u32 0, .int .u16 0, .int .u16 80, .int .u8 6] 34)) := blk_on (blk_new w3 (.cells #[.int .u32 167772160, .int .u32 0, .int .u16 0, .int .u16 80, .int .u8 6] 34)) hb4
  have HO4 : Hid (w3.heap.size < w4.heap.size) := blk_lt GM.out
  have hbl4 : Hid (Below w.heap.size w w4) := bel_step hbl3.out (bel_a1 _ _) hb4
  clear HW HA HH W_0 W_1 W_2 W_3 W_4 W_5 W_6 W_7 W_8 W_9 W_10 W_11 lW nW lA nA lH nH hb4 hbl3
  have HW := GW
  clear GW
  have HA := GA
  clear GA
  have HH := GH
  clear GH
  have HM := GM
  clear GM
  have lW := blk_lt HW.out
  have nW : ¬ w1.heap.size = w4.heap.size := by omega
  have lA := blk_lt HA.out
  have nA : ¬ w2.heap.size = w4.heap.size := by omega
  have lH := blk_lt HH.out
  have nH : ¬ w2.heap.size + 1 = w4.heap.size := by omega
  have lM := blk_lt HM.out
  have nM : ¬ w3.heap.size = w4.heap.size := by omega
  obtain ⟨W_0, W_1, W_2, W_3, W_4, W_5, W_6, W_7, W_8, W_9, W_10, W_11⟩ := blk12 HW.out
  go_wp2_with (fail)
  refine (hN _).mono ?_
  rintro e w5 ⟨rfl, hb5⟩
  have GW : Hid (w5.heap[w1.heap.size]? = some (.cells #[.int .i64 1, .int .u32 167772160, .int .i64 8, .int .u32 0, .int .i64 0, .int .u16 0, .int .u16 65535, .int .u16 80, .int .u16 81, .int .u8 6, .int .u8 255, .int .i64 2] 32)) := blk_on HW.out hb5
  have GA : Hid (w5.heap[w2.heap.size]? = some (.cells #[.int .i64 2, .int .u32 0, .int .i64 0, .int .u32 0, .int .i64 0, .int .u16 0, .int .u16 65535, .int .u16 0, .int .u16 65535, .int .u8 0, .int .u8 0, .int .i64 1] 32)) := blk_on HA.out hb5
  have GH : Hid (w5.heap[w2.heap.size + 1]? = some (.cells #[.int .u32 167772160, .int .u32 0, .int .u16 0, .int .u16 80, .int .u8 6] 34)) := blk_on HH.out hb5
  have GM : Hid (w5.heap[w3.heap.size]? = some (.cells #[.int .u32 167772160, .int .u32 0, .int .u16 0, .int .u16 80, .int .u8 6] 34)) := blk_on HM.out hb5
  have hbl5 : Hid (Below w.heap.size w w5) := bel_step hbl4.out (bel_a0 _) hb5
  clear HW HA HH HM W_0 W_1 W_2 W_3 W_4 W_5 W_6 W_7 W_8 W_9 W_10 W_11 lW nW lA nA lH nH lM nM hb5 hbl4
  have HW := GW
  clear GW
  have HA := GA
  clear GA
  have HH := GH
  clear GH
  have HM := GM
  clear GM
  have lW := blk_lt HW.out
  have nW : ¬ w1.heap.size = w5.heap.size := by omega
  have lA := blk_lt HA.out
  have nA : ¬ w2.heap.size = w5.heap.size := by omega
  have lH := blk_lt HH.out
  have nH : ¬ w2.heap.size + 1 = w5.heap.size := by omega
  have lM := blk_lt HM.out
  have nM : ¬ w3.heap.size = w5.heap.size := by omega
  obtain ⟨W_0, W_1, W_2, W_3, W_4, W_5, W_6, W_7, W_8, W_9, W_10, W_11⟩ := blk12 HW.out
  go_wp2_with (fail)
  refine (hB _).mono ?_
  rintro e w6 ⟨rfl, hb6⟩
  have GW : Hid (w6.heap[w1.heap.size]? = some (.cells #[.int .i64 1, .int .u32 167772160, .int .i64 8, .int .u32 0, .int .i64 0, .int .u16 0, .int .u16 65535, .int .u16 80, .int .u16 81, .int .u8 6, .int .u8 255, .int .i64 2] 32)) := blk_on HW.out hb6
  have GA : Hid (w6.heap[w2.heap.size]? = some (.cells #[.int .i64 2, .int .u32 0, .int .i64 0, .int .u32 0, .int .i64 0, .int .u16 0, .int .u16 65535, .int .u16 0, .int .u16 65535, .int .u8 0, .int .u8 0, .int .i64 1] 32)) := blk_on HA.out hb6
  have GH : Hid (w6.heap[w2.heap.size + 1]? = some (.cells #[.int .u32 167772160, .int .u32 0, .int .u16 0, .int .u16 80, .int .u8 6] 34)) := blk_on HH.out hb6
  have GM : Hid (w6.heap[w3.heap.size]? = some (.cells #[.int .u32 167772160, .int .u32 0, .int .u16 0, .int .u16 80, .int .u8 6] 34)) := blk_on HM.out hb6
  have hbl6 : Hid (Below w.heap.size w w6) := bel_step hbl5.out (bel_a0 _) hb6
  clear HW HA HH HM W_0 W_1 W_2 W_3 W_4 W_5 W_6 W_7 W_8 W_9 W_10 W_11 lW nW lA nA lH nH lM nM hb6 hbl5
  have HW := GW
  clear GW
  have HA := GA
  clear GA
  have HH := GH
  clear GH
  have HM := GM
  clear GM
  have lW := blk_lt HW.out
  have nW : ¬ w1.heap.size = w6.heap.size := by omega
  have lA := blk_lt HA.out
  have nA : ¬ w2.heap.size = w6.heap.size := by omega
  have lH := blk_lt HH.out
  have nH : ¬ w2.heap.size + 1 = w6.heap.size := by omega
  have lM := blk_lt HM.out
  have nM : ¬ w3.heap.size = w6.heap.size := by omega
  have hWW : ((w6.alloc (.cells #[.int .u32 167772160, .int .u32 184549375, .int .u32 0, .int .u32 4294967295, .int .u16 0, .int .u16 65535, .int .u16 80, .int .u16 81, .int .u8 6, .int .u8 255] 41))).heap[w1.heap.size]? = some (.cells #[.int .i64 1, .int .u32 167772160, .int .i64 8, .int .u32 0, .int .i64 0, .int .u16 0, .int .u16 65535, .int .u16 80, .int .u16 81, .int .u8 6, .int .u8 255, .int .i64 2] 32) := (blk_alloc HW.out _)
  obtain ⟨W_0, W_1, W_2, W_3, W_4, W_5, W_6, W_7, W_8, W_9, W_10, W_11⟩ := blk12 HW.out
  have HO6 : Hid (w1.heap.size < w6.heap.size) := lW
  have fW := blk_free HW.out 0
  go_wp2_with (fail)
  refine (hZ _).mono ?_
  rintro e w7 ⟨rfl, hb7⟩
  have GW : Hid (w7.heap[w1.heap.size]? = some (.cells #[.int .i64 0, .int .u32 167772160, .int .i64 8, .int .u32 0, .int .i64 0, .int .u16 0, .int .u16 65535, .int .u16 80, .int .u16 81, .int .u8 6, .int .u8 255, .int .i64 2] 32)) := blk_on (blk_alloc (blk_set HW.out _) _) hb7
  have GA : Hid (w7.heap[w2.heap.size]? = some (.cells #[.int .i64 2, .int .u32 0, .int .i64 0, .int .u32 0, .int .i64 0, .int .u16 0, .int .u16 65535, .int .u16 0, .int .u16 65535, .int .u8 0, .int .u8 0, .int .i64 1] 32)) := blk_on (blk_alloc (blk_far HA.out (by have := HO2.out; have := HO3.out; have := HO4.out; omega) _) _) hb7
  have GH : Hid (w7.heap[w2.heap.size + 1]? = some (.cells #[.int .u32 167772160, .int .u32 0, .int .u16 0, .int .u16 80, .int .u8 6] 34)) := blk_on (blk_alloc (blk_far HH.out (by have := HO2.out; have := HO3.out; have := HO4.out; omega) _) _) hb7
  have GM : Hid (w7.heap[w3.heap.size]? = some (.cells #[.int .u32 167772160, .int .u32 0, .int .u16 0, .int .u16 80, .int .u8 6] 34)) := blk_on (blk_alloc (blk_far HM.out (by have := HO2.out; have := HO3.out; have := HO4.out; omega) _) _) hb7
  have GX : Hid (w7.heap[w6.heap.size]? = some (.cells #[.int .u32 167772160, .int .u32 184549375, .int .u32 0, .int .u32 4294967295, .int .u16 0, .int .u16 65535, .int .u16 80, .int .u16 81, .int .u8 6, .int .u8 255] 41)) := blk_on (by simpa using blk_new (w6.setCell ⟨w1.heap.size, 0, none⟩ (.int .i64 0)) (.cells #[.int .u32 167772160, .int .u32 184549375, .int .u32 0, .int .u32 4294967295, .int .u16 0, .int .u16 65535, .int .u16 80, .int .u16 81, .int .u8 6, .int .u8 255] 41)) hb7
  have hbl7 : Hid (Below w.heap.size w w7) := (Below.alloc (Below.setCell hbl6.out (by have := hbl6.out.size; have := HLW.out; show w.heap.size ≤ w1.heap.size; omega) _) (by have := hbl6.out.size; simp; omega) _).trans (hb7.mono (by have := hbl6.out.size; simp; omega))
  clear HW HA HH HM W_0 W_1 W_2 W_3 W_4 W_5 W_6 W_7 W_8 W_9 W_10 W_11 lW nW lA nA lH nH lM nM hb7 fW hWW hbl6
  have HW := GW
  clear GW
  have HA := GA
  clear GA
  have HH := GH
  clear GH
  have HM := GM
  clear GM
  have HX := GX
  clear GX
  have lW := blk_lt HW.out
  have nW : ¬ w1.heap.size = w7.heap.size := by omega
  have lA := blk_lt HA.out
  have nA : ¬ w2.heap.size = w7.heap.size := by omega
  have lH := blk_lt HH.out
  have nH : ¬ w2.heap.size + 1 = w7.heap.size := by omega
  have lM := blk_lt HM.out
  have nM : ¬ w3.heap.size = w7.heap.size := by omega
  have lX := blk_lt HX.out
  have nX : ¬ w6.heap.size = w7.heap.size := by omega
  obtain ⟨W_0, W_1, W_2, W_3, W_4, W_5, W_6, W_7, W_8, W_9, W_10, W_11⟩ := blk12 HW.out
  obtain ⟨H_0, H_1, H_2, H_3, H_4⟩ := blk5 HH.out
  have HO7 : Hid (w6.heap.size < w7.heap.size) := lX
  have fW := blk_free HW.out 0
  have nn1 : ¬ w2.heap.size + 1 = w1.heap.size := (by have := HO2.out; have := HO3.out; have := HO4.out; have := HO7.out; have := HO6.out; omega)
  have nn2 : ¬ w1.heap.size = w2.heap.size + 1 := (by have := HO2.out; have := HO3.out; have := HO4.out; have := HO7.out; have := HO6.out; omega)
  go_wp2_with (fail)
  refine (k1 _).mono ?_
  rintro e w8 ⟨rfl, hb8⟩
  have GW : Hid (w8.heap[w1.heap.size]? = some (.cells #[.int .i64 1, .int .u32 167772160, .int .i64 8, .int .u32 0, .int .i64 0, .int .u16 0, .int .u16 65535, .int .u16 80, .int .u16 81, .int .u8 6, .int .u8 255, .int .i64 2] 32)) := blk_on (blk_set HW.out _) hb8
  have GA : Hid (w8.heap[w2.heap.size]? = some (.cells #[.int .i64 2, .int .u32 0, .int .i64 0, .int .u32 0, .int .i64 0, .int .u16 0, .int .u16 65535, .int .u16 0, .int .u16 65535, .int .u8 0, .int .u8 0, .int .i64 1] 32)) := blk_on (blk_far HA.out (by have := HO2.out; have := HO3.out; have := HO4.out; have := HO7.out; have := HO6.out; omega) _) hb8
  have GH : Hid (w8.heap[w2.heap.size + 1]? = some (.cells #[.int .u32 167772160, .int .u32 0, .int .u16 0, .int .u16 80, .int .u8 6] 34)) := blk_on (blk_far HH.out (by have := HO2.out; have := HO3.out; have := HO4.out; have := HO7.out; have := HO6.out; omega) _) hb8
  have GM : Hid (w8.heap[w3.heap.size]? = some (.cells #[.int .u32 167772160, .int .u32 0, .int .u16 0, .int .u16 80, .int .u8 6] 34)) := blk_on (blk_far HM.out (by have := HO2.out; have := HO3.out; have := HO4.out; have := HO7.out; have := HO6.out; omega) _) hb8
  have GX : Hid (w8.heap[w6.heap.size]? = some (.cells #[.int .u32 167772160, .int .u32 184549375, .int .u32 0, .int .u32 4294967295, .int .u16 0, .int .u16 65535, .int .u16 80, .int .u16 81, .int .u8 6, .int .u8 255] 41)) := blk_on (blk_far HX.out (by have := HO2.out; have := HO3.out; have := HO4.out; have := HO7.out; have := HO6.out; omega) _) hb8
  have hbl8 : Hid (Below w.heap.size w w8) := (Below.setCell hbl7.out (by have := HLW.out; show w.heap.size ≤ w1.heap.size; omega) _).trans (hb8.mono (by have := hbl7.out.size; simp; omega))
  clear HW HA HH HM HX W_0 W_1 W_2 W_3 W_4 W_5 W_6 W_7 W_8 W_9 W_10 W_11 H_0 H_1 H_2 H_3 H_4 lW nW lA nA lH nH lM nM lX nX hb8 fW nn1 nn2 hbl7
  have HW := GW
  clear GW
  have HA := GA
  clear GA
  have HH := GH
  clear GH
  have HM := GM
  clear GM
  have HX := GX
  clear GX
  have lW := blk_lt HW.out
  have nW : ¬ w1.heap.size = w8.heap.size := by omega
  have lA := blk_lt HA.out
  have nA : ¬ w2.heap.size = w8.heap.size := by omega
  have lH := blk_lt HH.out
  have nH : ¬ w2.heap.size + 1 = w8.heap.size := by omega
  have lM := blk_lt HM.out
  have nM : ¬ w3.heap.size = w8.heap.size := by omega
  have lX := blk_lt HX.out
  have nX : ¬ w6.heap.size = w8.heap.size := by omega
  obtain ⟨W_0, W_1, W_2, W_3, W_4, W_5, W_6, W_7, W_8, W_9, W_10, W_11⟩ := blk12 HW.out
  go_wp2_with (fail)
  refine (k2 _).mono ?_
  rintro e w9 ⟨rfl, hb9⟩
  have GW : Hid (w9.heap[w1.heap.size]? = some (.cells #[.int .i64 1, .int .u32 167772160, .int .i64 8, .int .u32 0, .int .i64 0, .int .u16 0, .int .u16 65535, .int .u16 80, .int .u16 81, .int .u8 6, .int .u8 255, .int .i64 2] 32)) := blk_on HW.out hb9
  have GA : Hid (w9.heap[w2.heap.size]? = some (.cells #[.int .i64 2, .int .u32 0, .int .i64 0, .int .u32 0, .int .i64 0, .int .u16 0, .int .u16 65535, .int .u16 0, .int .u16 65535, .int .u8 0, .int .u8 0, .int .i64 1] 32)) := blk_on HA.out hb9
  have GH : Hid (w9.heap[w2.heap.size + 1]? = some (.cells #[.int .u32 167772160, .int .u32 0, .int .u16 0, .int .u16 80, .int .u8 6] 34)) := blk_on HH.out hb9
  have GM : Hid (w9.heap[w3.heap.size]? = some (.cells #[.int .u32 167772160, .int .u32 0, .int .u16 0, .int .u16 80, .int .u8 6] 34)) := blk_on HM.out hb9
  have GX : Hid (w9.heap[w6.heap.size]? = some (.cells #[.int .u32 167772160, .int .u32 184549375, .int .u32 0, .int .u32 4294967295, .int .u16 0, .int .u16 65535, .int .u16 80, .int .u16 81, .int .u8 6, .int .u8 255] 41)) := blk_on HX.out hb9
  have hbl9 : Hid (Below w.heap.size w w9) := bel_step hbl8.out (bel_a0 _) hb9
  clear HW HA HH HM HX W_0 W_1 W_2 W_3 W_4 W_5 W_6 W_7 W_8 W_9 W_10 W_11 lW nW lA nA lH nH lM nM lX nX hb9 hbl8
  have HW := GW
  clear GW
  have HA := GA
  clear GA
  have HH := GH
  clear GH
  have HM := GM
  clear GM
  have HX := GX
  clear GX
  have lW := blk_lt HW.out
  have nW : ¬ w1.heap.size = w9.heap.size := by omega
  have lA := blk_lt HA.out
  have nA : ¬ w2.heap.size = w9.heap.size := by omega
  have lH := blk_lt HH.out
  have nH : ¬ w2.heap.size + 1 = w9.heap.size := by omega
  have lM := blk_lt HM.out
  have nM : ¬ w3.heap.size = w9.heap.size := by omega
  have lX := blk_lt HX.out
  have nX : ¬ w6.heap.size = w9.heap.size := by omega
  obtain ⟨W_0, W_1, W_2, W_3, W_4, W_5, W_6, W_7, W_8, W_9, W_10, W_11⟩ := blk12 HW.out
  obtain ⟨A_0, A_1, A_2, A_3, A_4, A_5, A_6, A_7, A_8, A_9, A_10, A_11⟩ := blk12 HA.out
  obtain ⟨H_0, H_1, H_2, H_3, H_4⟩ := blk5 HH.out
  obtain ⟨M_0, M_1, M_2, M_3, M_4⟩ := blk5 HM.out
  obtain ⟨X_0, X_1, X_2, X_3, X_4, X_5, X_6, X_7, X_8, X_9⟩ := blk10 HX.out
  go_wp2_with (fail)
  refine (k3 _).mono ?_
  rintro e w10 ⟨rfl, hb10⟩
  have GW : Hid (w10.heap[w1.heap.size]? = some (.cells #[.int .i64 1, .int .u32 167772160, .int .i64 8, .int .u32 0, .int .i64 0, .int .u16 0, .int .u16 65535, .int .u16 80, .int .u16 81, .int .u8 6, .int .u8 255, .int .i64 2] 32)) := blk_on HW.out hb10
  have GA : Hid (w10.heap[w2.heap.size]? = some (.cells #[.int .i64 2, .int .u32 0, .int .i64 0, .int .u32 0, .int .i64 0, .int .u16 0, .int .u16 65535, .int .u16 0, .int .u16 65535, .int .u8 0, .int .u8 0, .int .i64 1] 32)) := blk_on HA.out hb10
  have GH : Hid (w10.heap[w2.heap.size + 1]? = some (.cells #[.int .u32 167772160, .int .u32 0, .int .u16 0, .int .u16 80, .int .u8 6] 34)) := blk_on HH.out hb10
  have GM : Hid (w10.heap[w3.heap.size]? = some (.cells #[.int .u32 167772160, .int .u32 0, .int .u16 0, .int .u16 80, .int .u8 6] 34)) := blk_on HM.out hb10
  have GX : Hid (w10.heap[w6.heap.size]? = some (.cells #[.int .u32 167772160, .int .u32 184549375, .int .u32 0, .int .u32 4294967295, .int .u16 0, .int .u16 65535, .int .u16 80, .int .u16 81, .int .u8 6, .int .u8 255] 41)) := blk_on HX.out hb10
  have hbl10 : Hid (Below w.heap.size w w10) := bel_step hbl9.out (bel_a0 _) hb10
  clear HW HA HH HM HX W_0 W_1 W_2 W_3 W_4 W_5 W_6 W_7 W_8 W_9 W_10 W_11 A_0 A_1 A_2 A_3 A_4 A_5 A_6 A_7 A_8 A_9 A_10 A_11 H_0 H_1 H_2 H_3 H_4 M_0 M_1 M_2 M_3 M_4 X_0 X_1 X_2 X_3 X_4 X_5 X_6 X_7 X_8 X_9 lW nW lA nA lH nH lM nM lX nX hb10 hbl9
  have HW := GW
  clear GW
  have HA := GA
  clear GA
  have HH := GH
  clear GH
  have HM := GM
  clear GM
  have HX := GX
  clear GX
  have lW := blk_lt HW.out
  have nW : ¬ w1.heap.size = w10.heap.size := by omega
  have lA := blk_lt HA.out
  have nA : ¬ w2.heap.size = w10.heap.size := by omega
  have lH := blk_lt HH.out
  have nH : ¬ w2.heap.size + 1 = w10.heap.size := by omega
  have lM := blk_lt HM.out
  have nM : ¬ w3.heap.size = w10.heap.size := by omega
  have lX := blk_lt HX.out
  have nX : ¬ w6.heap.size = w10.heap.size := by omega
  obtain ⟨W_0, W_1, W_2, W_3, W_4, W_5, W_6, W_7, W_8, W_9, W_10, W_11⟩ := blk12 HW.out
  obtain ⟨A_0, A_1, A_2, A_3, A_4, A_5, A_6, A_7, A_8, A_9, A_10, A_11⟩ := blk12 HA.out
  go_wp2_with (fail)
  refine (k4 _).mono ?_
  rintro e w11 ⟨rfl, hb11⟩
  have GW : Hid (w11.heap[w1.heap.size]? = some (.cells #[.int .i64 1, .int .u32 167772160, .int .i64 8, .int .u32 0, .int .i64 0, .int .u16 0, .int .u16 65535, .int .u16 80, .int .u16 81, .int .u8 6, .int .u8 255, .int .i64 2] 32)) := blk_on HW.out hb11
  have GA : Hid (w11.heap[w2.heap.size]? = some (.cells #[.int .i64 2, .int .u32 0, .int .i64 0, .int .u32 0, .int .i64 0, .int .u16 0, .int .u16 65535, .int .u16 0, .int .u16 65535, .int .u8 0, .int .u8 0, .int .i64 1] 32)) := blk_on HA.out hb11
  have GH : Hid (w11.heap[w2.heap.size + 1]? = some (.cells #[.int .u32 167772160, .int .u32 0, .int .u16 0, .int .u16 80, .int .u8 6] 34)) := blk_on HH.out hb11
  have GM : Hid (w11.heap[w3.heap.size]? = some (.cells #[.int .u32 167772160, .int .u32 0, .int .u16 0, .int .u16 80, .int .u8 6] 34)) := blk_on HM.out hb11
  have GX : Hid (w11.heap[w6.heap.size]? = some (.cells #[.int .u32 167772160, .int .u32 184549375, .int .u32 0, .int .u32 4294967295, .int .u16 0, .int .u16 65535, .int .u16 80, .int .u16 81, .int .u8 6, .int .u8 255] 41)) := blk_on HX.out hb11
  have hbl11 : Hid (Below w.heap.size w w11) := bel_step hbl10.out (bel_a0 _) hb11
  clear HW HA HH HM HX W_0 W_1 W_2 W_3 W_4 W_5 W_6 W_7 W_8 W_9 W_10 W_11 A_0 A_1 A_2 A_3 A_4 A_5 A_6 A_7 A_8 A_9 A_10 A_11 lW nW lA nA lH nH lM nM lX nX hb11 hbl10
  have HW := GW
  clear GW
  have HA := GA
  clear GA
  have HH := GH
  clear GH
  have HM := GM
  clear GM
  have HX := GX
  clear GX
  have lW := blk_lt HW.out
  have nW : ¬ w1.heap.size = w11.heap.size := by omega
  have lA := blk_lt HA.out
  have nA : ¬ w2.heap.size = w11.heap.size := by omega
  have lH := blk_lt HH.out
  have nH : ¬ w2.heap.size + 1 = w11.heap.size := by omega
  have lM := blk_lt HM.out
  have nM : ¬ w3.heap.size = w11.heap.size := by omega
  have lX := blk_lt HX.out
  have nX : ¬ w6.heap.size = w11.heap.size := by omega
  go_wp2_with (fail)
  go_ret
  exact ⟨rfl, hbl11.out⟩
end Go.Proofs.YtebljklpkoheaaaGreat
