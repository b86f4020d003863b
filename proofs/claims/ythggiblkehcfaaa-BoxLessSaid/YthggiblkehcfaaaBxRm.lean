/-
  Meet, Within of the document's answer. Written by tools/mkBxR2.py.
-/
import Derived.Test.YthggiblkehcfaaaBxEq
import Derived.Test.YthggiblkehcfaaaBxW
import Derived.Test.YthggiblkehcfaaaMkD
import Derived.Lib.MinMax
namespace Go.Proofs.Ythggiblkehcfaaa
open Go.RowKit
set_option linter.unusedVariables false
set_option linter.unusedSimpArgs false

theorem max_nat (a b : Nat) : max (a : Int) (b : Int) = ((max a b : Nat) : Int) := by omega
theorem min_nat (a b : Nat) : min (a : Int) (b : Int) = ((min a b : Nat) : Int) := by omega
set_option maxRecDepth 20000 in
set_option maxHeartbeats 4000000 in
theorem rmeetX (X Y : Bx) (w : World) (bX : BdX X) (bY : BdX Y) : Calls Try.prog 21 #[.agg #[.int .u32 (X.a.1 : Int), .int .u32 (X.a.2 : Int), .int .u32 (X.b.1 : Int), .int .u32 (X.b.2 : Int), .int .u16 (X.c.1 : Int), .int .u16 (X.c.2 : Int), .int .u16 (X.d.1 : Int), .int .u16 (X.d.2 : Int), .int .u8 (X.m.1 : Int), .int .u8 (X.m.2 : Int)], .agg #[.int .u32 (Y.a.1 : Int), .int .u32 (Y.a.2 : Int), .int .u32 (Y.b.1 : Int), .int .u32 (Y.b.2 : Int), .int .u16 (Y.c.1 : Int), .int .u16 (Y.c.2 : Int), .int .u16 (Y.d.1 : Int), .int .u16 (Y.d.2 : Int), .int .u8 (Y.m.1 : Int), .int .u8 (Y.m.2 : Int)]] w fun e w' => e = .returned (.tuple #[.agg #[.int .u32 ((meetX X Y).a.1 : Int), .int .u32 ((meetX X Y).a.2 : Int), .int .u32 ((meetX X Y).b.1 : Int), .int .u32 ((meetX X Y).b.2 : Int), .int .u16 ((meetX X Y).c.1 : Int), .int .u16 ((meetX X Y).c.2 : Int), .int .u16 ((meetX X Y).d.1 : Int), .int .u16 ((meetX X Y).d.2 : Int), .int .u8 ((meetX X Y).m.1 : Int), .int .u8 ((meetX X Y).m.2 : Int)], .bool (bothX X Y)]) ∧ Below w.heap.size w w' := by
  have hC1 := fun W => rcheckX X W bX
  have hC2 := fun W => rcheckX Y W bY
  cases hx : okX X
  · have hn : ¬ chkX X = 0 := fun e => by rw [chkX_ok, hx] at e; cases e
    have hd : decide (chkX X = 0) = false := decide_eq_false hn
    have hb : bothX X Y = false := by unfold bothX; rw [hx]; rfl
    rw [show meetX X Y = zeroX by unfold meetX; rw [hb]; rfl, hb]
    generalize chkX X = cc at *
    clear hx hb hC2 bX bY
    go_enter Try.func21, Try.ntmps21
    go_wp2_with (fail)
    refine (hC1 _).mono ?_
    rintro e w1 ⟨rfl, hb1⟩
    have hR : w1.heap[w.heap.size + 1 + 1]? = some (.cells #[.int .u32 0, .int .u32 0, .int .u32 0, .int .u32 0, .int .u16 0, .int .u16 0, .int .u16 0, .int .u16 0, .int .u8 0, .int .u8 0] 33) := blk_on (by simpa using blk_new ((w.alloc (.cells #[.int .u32 (X.a.1 : Int), .int .u32 (X.a.2 : Int), .int .u32 (X.b.1 : Int), .int .u32 (X.b.2 : Int), .int .u16 (X.c.1 : Int), .int .u16 (X.c.2 : Int), .int .u16 (X.d.1 : Int), .int .u16 (X.d.2 : Int), .int .u8 (X.m.1 : Int), .int .u8 (X.m.2 : Int)] 33)).alloc (.cells #[.int .u32 (Y.a.1 : Int), .int .u32 (Y.a.2 : Int), .int .u32 (Y.b.1 : Int), .int .u32 (Y.b.2 : Int), .int .u16 (Y.c.1 : Int), .int .u16 (Y.c.2 : Int), .int .u16 (Y.d.1 : Int), .int .u16 (Y.d.2 : Int), .int .u8 (Y.m.1 : Int), .int .u8 (Y.m.2 : Int)] 33)) (.cells #[.int .u32 0, .int .u32 0, .int .u32 0, .int .u32 0, .int .u16 0, .int .u16 0, .int .u16 0, .int .u16 0, .int .u8 0, .int .u8 0] 33)) hb1
    have hbl : Hid (Below w.heap.size w w1) := by show Below _ _ _; (repeat (first | assumption | exact Below.refl _ _ | refine Below.drew ?_ | refine bel_drewN ?_ _ | refine Below.setCell ?_ (by first | omega | (simp; done) | (simp; omega)) _ | refine Below.alloc ?_ (by first | omega | (simp; done) | (simp; omega)) _ | refine bel_of ?_ (by assumption)))
    clear hb1 hC1
    go_wp2_with (refine wpList_store_blk rfl 33 (.tmp 4) (.tmp 17) rfl (w.heap.size + 1 + 1) 0 #[.int .u32 0, .int .u32 0, .int .u32 0, .int .u32 0, .int .u16 0, .int .u16 0, .int .u16 0, .int .u16 0, .int .u8 0, .int .u8 0] #[.int .u32 0, .int .u32 0, .int .u32 0, .int .u32 0, .int .u16 0, .int .u16 0, .int .u16 0, .int .u16 0, .int .u8 0, .int .u8 0] rfl rfl 33 _ hR (Nat.le_of_ble_eq_true rfl) rfl (by kernel_rfl) rfl ?_; intro w3 h3 ho3)
    exact bodyPost_ret (results_blk2 Try.results21 rfl h3 Try.underlying33 rfl (by kernel_rfl)) rfl ⟨rfl, hbl.out.trans (ho3.below (by omega))⟩
  · rw [chkX_ok.2 hx] at hC1
    cases hy : okX Y
    · have hn : ¬ chkX Y = 0 := fun e => by rw [chkX_ok, hy] at e; cases e
      have hd : decide (chkX Y = 0) = false := decide_eq_false hn
      have hb : bothX X Y = false := by unfold bothX; rw [hx, hy]; rfl
      rw [show meetX X Y = zeroX by unfold meetX; rw [hb]; rfl, hb]
      generalize chkX Y = cc at *
      clear hx hy hb bX bY
      go_enter Try.func21, Try.ntmps21
      go_wp2_with (fail)
      refine (hC1 _).mono ?_
      rintro e w1 ⟨rfl, hb1⟩
      have hY1 : w1.heap[w.heap.size + 1]? = some (.cells #[.int .u32 (Y.a.1 : Int), .int .u32 (Y.a.2 : Int), .int .u32 (Y.b.1 : Int), .int .u32 (Y.b.2 : Int), .int .u16 (Y.c.1 : Int), .int .u16 (Y.c.2 : Int), .int .u16 (Y.d.1 : Int), .int .u16 (Y.d.2 : Int), .int .u8 (Y.m.1 : Int), .int .u8 (Y.m.2 : Int)] 33) := blk_on (blk_alloc (by simpa using blk_new (w.alloc (.cells #[.int .u32 (X.a.1 : Int), .int .u32 (X.a.2 : Int), .int .u32 (X.b.1 : Int), .int .u32 (X.b.2 : Int), .int .u16 (X.c.1 : Int), .int .u16 (X.c.2 : Int), .int .u16 (X.d.1 : Int), .int .u16 (X.d.2 : Int), .int .u8 (X.m.1 : Int), .int .u8 (X.m.2 : Int)] 33)) (.cells #[.int .u32 (Y.a.1 : Int), .int .u32 (Y.a.2 : Int), .int .u32 (Y.b.1 : Int), .int .u32 (Y.b.2 : Int), .int .u16 (Y.c.1 : Int), .int .u16 (Y.c.2 : Int), .int .u16 (Y.d.1 : Int), .int .u16 (Y.d.2 : Int), .int .u8 (Y.m.1 : Int), .int .u8 (Y.m.2 : Int)] 33)) _) hb1
      have hR : Hid (w1.heap[w.heap.size + 1 + 1]? = some (.cells #[.int .u32 0, .int .u32 0, .int .u32 0, .int .u32 0, .int .u16 0, .int .u16 0, .int .u16 0, .int .u16 0, .int .u8 0, .int .u8 0] 33)) := blk_on (by simpa using blk_new ((w.alloc (.cells #[.int .u32 (X.a.1 : Int), .int .u32 (X.a.2 : Int), .int .u32 (X.b.1 : Int), .int .u32 (X.b.2 : Int), .int .u16 (X.c.1 : Int), .int .u16 (X.c.2 : Int), .int .u16 (X.d.1 : Int), .int .u16 (X.d.2 : Int), .int .u8 (X.m.1 : Int), .int .u8 (X.m.2 : Int)] 33)).alloc (.cells #[.int .u32 (Y.a.1 : Int), .int .u32 (Y.a.2 : Int), .int .u32 (Y.b.1 : Int), .int .u32 (Y.b.2 : Int), .int .u16 (Y.c.1 : Int), .int .u16 (Y.c.2 : Int), .int .u16 (Y.d.1 : Int), .int .u16 (Y.d.2 : Int), .int .u8 (Y.m.1 : Int), .int .u8 (Y.m.2 : Int)] 33)) (.cells #[.int .u32 0, .int .u32 0, .int .u32 0, .int .u32 0, .int .u16 0, .int .u16 0, .int .u16 0, .int .u16 0, .int .u8 0, .int .u8 0] 33)) hb1
      obtain ⟨c0, c1, c2, c3, c4, c5, c6, c7, c8, c9⟩ := blk10 hY1
      have hbl : Hid (Below w.heap.size w w1) := by show Below _ _ _; (repeat (first | assumption | exact Below.refl _ _ | refine Below.drew ?_ | refine bel_drewN ?_ _ | refine Below.setCell ?_ (by first | omega | (simp; done) | (simp; omega)) _ | refine Below.alloc ?_ (by first | omega | (simp; done) | (simp; omega)) _ | refine bel_of ?_ (by assumption)))
      clear hb1 hC1 hY1
      go_wp2_with (fail)
      refine (hC2 _).mono ?_
      rintro e w2 ⟨rfl, hb2⟩
      have hR2 := blk_on hR.out hb2
      have hbl2 : Hid (Below w.heap.size w w2) := hbl.out.trans (hb2.mono hbl.out.size)
      clear hb2 hC2 c0 c1 c2 c3 c4 c5 c6 c7 c8 c9
      go_wp2_with (refine wpList_store_blk rfl 33 (.tmp 4) (.tmp 17) rfl (w.heap.size + 1 + 1) 0 #[.int .u32 0, .int .u32 0, .int .u32 0, .int .u32 0, .int .u16 0, .int .u16 0, .int .u16 0, .int .u16 0, .int .u8 0, .int .u8 0] #[.int .u32 0, .int .u32 0, .int .u32 0, .int .u32 0, .int .u16 0, .int .u16 0, .int .u16 0, .int .u16 0, .int .u8 0, .int .u8 0] rfl rfl 33 _ hR2 (Nat.le_of_ble_eq_true rfl) rfl (by kernel_rfl) rfl ?_; intro w3 h3 ho3)
      exact bodyPost_ret (results_blk2 Try.results21 rfl h3 Try.underlying33 rfl (by kernel_rfl)) rfl ⟨rfl, hbl2.out.trans (ho3.below (by omega))⟩
    · rw [chkX_ok.2 hy] at hC2
      have ox := (okX_iff X).1 hx
      have oy := (okX_iff Y).1 hy
      obtain ⟨M, hM⟩ : ∃ M, M = meetB X Y := ⟨_, rfl⟩
      have bM : BdX M := by rw [hM]; exact meetB_bd bX bY
      have f1 : max (X.a.1 : Int) (Y.a.1 : Int) = (M.a.1 : Int) := by rw [hM]; exact max_nat _ _
      have f2 : min (X.a.2 : Int) (Y.a.2 : Int) = (M.a.2 : Int) := by rw [hM]; exact min_nat _ _
      have f3 : max (X.b.1 : Int) (Y.b.1 : Int) = (M.b.1 : Int) := by rw [hM]; exact max_nat _ _
      have f4 : min (X.b.2 : Int) (Y.b.2 : Int) = (M.b.2 : Int) := by rw [hM]; exact min_nat _ _
      have f5 : max (X.c.1 : Int) (Y.c.1 : Int) = (M.c.1 : Int) := by rw [hM]; exact max_nat _ _
      have f6 : min (X.c.2 : Int) (Y.c.2 : Int) = (M.c.2 : Int) := by rw [hM]; exact min_nat _ _
      have f7 : max (X.d.1 : Int) (Y.d.1 : Int) = (M.d.1 : Int) := by rw [hM]; exact max_nat _ _
      have f8 : min (X.d.2 : Int) (Y.d.2 : Int) = (M.d.2 : Int) := by rw [hM]; exact min_nat _ _
      cases hap : apM X.m.1 X.m.2 Y.m.1 Y.m.2
      · have hMm := fun W => rmeet_yes X.m.1 X.m.2 Y.m.1 Y.m.2 W bX.2.2.2.2.2.2.2.2.1 bX.2.2.2.2.2.2.2.2.2 bY.2.2.2.2.2.2.2.2.1 bY.2.2.2.2.2.2.2.2.2 (by rw [ox.2.2.2.2, oy.2.2.2.2, hap]; rfl)
        rw [show X.m.1 ||| Y.m.1 = M.m.1 by rw [hM]; rfl, show X.m.2 ||| Y.m.2 = M.m.2 by rw [hM]; rfl] at hMm
        have hC3 := fun W => rcheckX M W bM
        have hbo : bothX X Y = okX M := by unfold bothX; rw [hx, hy, hap, hM]; rfl
        rw [hbo, show meetX X Y = if okX M then M else zeroX by unfold meetX; rw [hbo, hM]]
        cases hm : okX M
        · have hn : ¬ chkX M = 0 := fun e => by rw [chkX_ok, hm] at e; cases e
          have hd : decide (chkX M = 0) = false := decide_eq_false hn
          rw [if_neg (by simp)]
          generalize chkX M = cc at *
          clear hm hbo hx hy hap ox oy hM bX bY bM
          go_enter Try.func21, Try.ntmps21
          go_wp2_with (fail)
          refine (hC1 _).mono ?_
          rintro e w1 ⟨rfl, hb1⟩
          have hX1 : w1.heap[w.heap.size]? = some (.cells #[.int .u32 (X.a.1 : Int), .int .u32 (X.a.2 : Int), .int .u32 (X.b.1 : Int), .int .u32 (X.b.2 : Int), .int .u16 (X.c.1 : Int), .int .u16 (X.c.2 : Int), .int .u16 (X.d.1 : Int), .int .u16 (X.d.2 : Int), .int .u8 (X.m.1 : Int), .int .u8 (X.m.2 : Int)] 33) := blk_on (blk_alloc (blk_alloc (blk_new w (.cells #[.int .u32 (X.a.1 : Int), .int .u32 (X.a.2 : Int), .int .u32 (X.b.1 : Int), .int .u32 (X.b.2 : Int), .int .u16 (X.c.1 : Int), .int .u16 (X.c.2 : Int), .int .u16 (X.d.1 : Int), .int .u16 (X.d.2 : Int), .int .u8 (X.m.1 : Int), .int .u8 (X.m.2 : Int)] 33)) _) _) hb1
          have hY1 : w1.heap[w.heap.size + 1]? = some (.cells #[.int .u32 (Y.a.1 : Int), .int .u32 (Y.a.2 : Int), .int .u32 (Y.b.1 : Int), .int .u32 (Y.b.2 : Int), .int .u16 (Y.c.1 : Int), .int .u16 (Y.c.2 : Int), .int .u16 (Y.d.1 : Int), .int .u16 (Y.d.2 : Int), .int .u8 (Y.m.1 : Int), .int .u8 (Y.m.2 : Int)] 33) := blk_on (blk_alloc (by simpa using blk_new (w.alloc (.cells #[.int .u32 (X.a.1 : Int), .int .u32 (X.a.2 : Int), .int .u32 (X.b.1 : Int), .int .u32 (X.b.2 : Int), .int .u16 (X.c.1 : Int), .int .u16 (X.c.2 : Int), .int .u16 (X.d.1 : Int), .int .u16 (X.d.2 : Int), .int .u8 (X.m.1 : Int), .int .u8 (X.m.2 : Int)] 33)) (.cells #[.int .u32 (Y.a.1 : Int), .int .u32 (Y.a.2 : Int), .int .u32 (Y.b.1 : Int), .int .u32 (Y.b.2 : Int), .int .u16 (Y.c.1 : Int), .int .u16 (Y.c.2 : Int), .int .u16 (Y.d.1 : Int), .int .u16 (Y.d.2 : Int), .int .u8 (Y.m.1 : Int), .int .u8 (Y.m.2 : Int)] 33)) _) hb1
          have hR1 : Hid (w1.heap[w.heap.size + 1 + 1]? = some (.cells #[.int .u32 0, .int .u32 0, .int .u32 0, .int .u32 0, .int .u16 0, .int .u16 0, .int .u16 0, .int .u16 0, .int .u8 0, .int .u8 0] 33)) := blk_on (by simpa using blk_new ((w.alloc (.cells #[.int .u32 (X.a.1 : Int), .int .u32 (X.a.2 : Int), .int .u32 (X.b.1 : Int), .int .u32 (X.b.2 : Int), .int .u16 (X.c.1 : Int), .int .u16 (X.c.2 : Int), .int .u16 (X.d.1 : Int), .int .u16 (X.d.2 : Int), .int .u8 (X.m.1 : Int), .int .u8 (X.m.2 : Int)] 33)).alloc (.cells #[.int .u32 (Y.a.1 : Int), .int .u32 (Y.a.2 : Int), .int .u32 (Y.b.1 : Int), .int .u32 (Y.b.2 : Int), .int .u16 (Y.c.1 : Int), .int .u16 (Y.c.2 : Int), .int .u16 (Y.d.1 : Int), .int .u16 (Y.d.2 : Int), .int .u8 (Y.m.1 : Int), .int .u8 (Y.m.2 : Int)] 33)) (.cells #[.int .u32 0, .int .u32 0, .int .u32 0, .int .u32 0, .int .u16 0, .int .u16 0, .int .u16 0, .int .u16 0, .int .u8 0, .int .u8 0] 33)) hb1
          have HX1 : Hid (w1.heap[w.heap.size]? = some (.cells #[.int .u32 (X.a.1 : Int), .int .u32 (X.a.2 : Int), .int .u32 (X.b.1 : Int), .int .u32 (X.b.2 : Int), .int .u16 (X.c.1 : Int), .int .u16 (X.c.2 : Int), .int .u16 (X.d.1 : Int), .int .u16 (X.d.2 : Int), .int .u8 (X.m.1 : Int), .int .u8 (X.m.2 : Int)] 33)) := hX1
          have HY1 : Hid (w1.heap[w.heap.size + 1]? = some (.cells #[.int .u32 (Y.a.1 : Int), .int .u32 (Y.a.2 : Int), .int .u32 (Y.b.1 : Int), .int .u32 (Y.b.2 : Int), .int .u16 (Y.c.1 : Int), .int .u16 (Y.c.2 : Int), .int .u16 (Y.d.1 : Int), .int .u16 (Y.d.2 : Int), .int .u8 (Y.m.1 : Int), .int .u8 (Y.m.2 : Int)] 33)) := hY1
          obtain ⟨c0, c1, c2, c3, c4, c5, c6, c7, c8, c9⟩ := blk10 hY1
          have hbl1 : Hid (Below w.heap.size w w1) := by show Below _ _ _; (repeat (first | assumption | exact Below.refl _ _ | refine Below.drew ?_ | refine bel_drewN ?_ _ | refine Below.setCell ?_ (by first | omega | (simp; done) | (simp; omega)) _ | refine Below.alloc ?_ (by first | omega | (simp; done) | (simp; omega)) _ | refine bel_of ?_ (by assumption)))
          clear hb1 hC1 hX1 hY1
          go_wp2_with (fail)
          refine (hC2 _).mono ?_
          rintro e w2 ⟨rfl, hb2⟩
          have HX2 : Hid (w2.heap[w.heap.size]? = some (.cells #[.int .u32 (X.a.1 : Int), .int .u32 (X.a.2 : Int), .int .u32 (X.b.1 : Int), .int .u32 (X.b.2 : Int), .int .u16 (X.c.1 : Int), .int .u16 (X.c.2 : Int), .int .u16 (X.d.1 : Int), .int .u16 (X.d.2 : Int), .int .u8 (X.m.1 : Int), .int .u8 (X.m.2 : Int)] 33)) := blk_on HX1.out hb2
          have HY2 : Hid (w2.heap[w.heap.size + 1]? = some (.cells #[.int .u32 (Y.a.1 : Int), .int .u32 (Y.a.2 : Int), .int .u32 (Y.b.1 : Int), .int .u32 (Y.b.2 : Int), .int .u16 (Y.c.1 : Int), .int .u16 (Y.c.2 : Int), .int .u16 (Y.d.1 : Int), .int .u16 (Y.d.2 : Int), .int .u8 (Y.m.1 : Int), .int .u8 (Y.m.2 : Int)] 33)) := blk_on HY1.out hb2
          have hR2 : Hid (w2.heap[w.heap.size + 1 + 1]? = some (.cells #[.int .u32 0, .int .u32 0, .int .u32 0, .int .u32 0, .int .u16 0, .int .u16 0, .int .u16 0, .int .u16 0, .int .u8 0, .int .u8 0] 33)) := blk_on hR1.out hb2
          have hbl2 : Hid (Below w.heap.size w w2) := hbl1.out.trans (hb2.mono hbl1.out.size)
          clear hb2 hC2 c0 c1 c2 c3 c4 c5 c6 c7 c8 c9 HX1 HY1 hR1 hbl1
          obtain ⟨c0, c1, c2, c3, c4, c5, c6, c7, c8, c9⟩ := blk10 HX2.out
          obtain ⟨d0, d1, d2, d3, d4, d5, d6, d7, d8, d9⟩ := blk10 HY2.out
          go_wp2_with (fail)
          refine (hMm _).mono ?_
          rintro e w3 ⟨rfl, hb3⟩
          have HX3 := blk_on HX2.out hb3
          have HY3 := blk_on HY2.out hb3
          have hR3 : Hid (w3.heap[w.heap.size + 1 + 1]? = some (.cells #[.int .u32 0, .int .u32 0, .int .u32 0, .int .u32 0, .int .u16 0, .int .u16 0, .int .u16 0, .int .u16 0, .int .u8 0, .int .u8 0] 33)) := blk_on hR2.out hb3
          have hbl3 : Hid (Below w.heap.size w w3) := hbl2.out.trans (hb3.mono hbl2.out.size)
          clear hb3 hMm c0 c1 c2 c3 c4 c5 c6 c7 c8 c9 d0 d1 d2 d3 d4 d5 d6 d7 d8 d9 HX2 HY2 hR2 hbl2
          obtain ⟨c0, c1, c2, c3, c4, c5, c6, c7, c8, c9⟩ := blk10 HX3
          obtain ⟨d0, d1, d2, d3, d4, d5, d6, d7, d8, d9⟩ := blk10 HY3
          have hlt3 := blk_lt hR3.out
          have hl0 : w.heap.size < w3.heap.size := by omega
          have hl1 : w.heap.size + 1 < w3.heap.size := by omega
          have n0 : ¬ w.heap.size = w3.heap.size := by omega
          have n1 : ¬ w.heap.size + 1 = w3.heap.size := by omega
          clear HX3 HY3
          go_wp2_with (fail)
          refine (hC3 _).mono ?_
          rintro e w4 ⟨rfl, hb4⟩
          have hR4 := blk_on (blk_alloc (blk_alloc hR3.out _) _) hb4
          have hbl4 : Hid (Below w.heap.size w w4) := ((hbl3.out.alloc (by omega) _).alloc (by simp; omega) _).trans (hb4.mono (by simp; omega))
          clear hb4 hC3 c0 c1 c2 c3 c4 c5 c6 c7 c8 c9 d0 d1 d2 d3 d4 d5 d6 d7 d8 d9
          go_wp2_with (refine wpList_store_blk rfl 33 (.tmp 4) (.tmp 95) rfl (w.heap.size + 1 + 1) 0 #[.int .u32 0, .int .u32 0, .int .u32 0, .int .u32 0, .int .u16 0, .int .u16 0, .int .u16 0, .int .u16 0, .int .u8 0, .int .u8 0] #[.int .u32 0, .int .u32 0, .int .u32 0, .int .u32 0, .int .u16 0, .int .u16 0, .int .u16 0, .int .u16 0, .int .u8 0, .int .u8 0] rfl rfl 33 _ (hR4) (Nat.le_of_ble_eq_true rfl) rfl (by kernel_rfl) rfl ?_; intro w5 h5 ho5)
          exact bodyPost_ret (results_blk2 Try.results21 rfl h5 Try.underlying33 rfl (by kernel_rfl)) rfl ⟨rfl, hbl4.out.trans (ho5.below (by omega))⟩
        · rw [chkX_ok.2 hm] at hC3
          rw [if_pos rfl]
          clear hm hbo hx hy hap ox oy hM bX bY bM
          go_enter Try.func21, Try.ntmps21
          go_wp2_with (fail)
          refine (hC1 _).mono ?_
          rintro e w1 ⟨rfl, hb1⟩
          have hX1 : w1.heap[w.heap.size]? = some (.cells #[.int .u32 (X.a.1 : Int), .int .u32 (X.a.2 : Int), .int .u32 (X.b.1 : Int), .int .u32 (X.b.2 : Int), .int .u16 (X.c.1 : Int), .int .u16 (X.c.2 : Int), .int .u16 (X.d.1 : Int), .int .u16 (X.d.2 : Int), .int .u8 (X.m.1 : Int), .int .u8 (X.m.2 : Int)] 33) := blk_on (blk_alloc (blk_alloc (blk_new w (.cells #[.int .u32 (X.a.1 : Int), .int .u32 (X.a.2 : Int), .int .u32 (X.b.1 : Int), .int .u32 (X.b.2 : Int), .int .u16 (X.c.1 : Int), .int .u16 (X.c.2 : Int), .int .u16 (X.d.1 : Int), .int .u16 (X.d.2 : Int), .int .u8 (X.m.1 : Int), .int .u8 (X.m.2 : Int)] 33)) _) _) hb1
          have hY1 : w1.heap[w.heap.size + 1]? = some (.cells #[.int .u32 (Y.a.1 : Int), .int .u32 (Y.a.2 : Int), .int .u32 (Y.b.1 : Int), .int .u32 (Y.b.2 : Int), .int .u16 (Y.c.1 : Int), .int .u16 (Y.c.2 : Int), .int .u16 (Y.d.1 : Int), .int .u16 (Y.d.2 : Int), .int .u8 (Y.m.1 : Int), .int .u8 (Y.m.2 : Int)] 33) := blk_on (blk_alloc (by simpa using blk_new (w.alloc (.cells #[.int .u32 (X.a.1 : Int), .int .u32 (X.a.2 : Int), .int .u32 (X.b.1 : Int), .int .u32 (X.b.2 : Int), .int .u16 (X.c.1 : Int), .int .u16 (X.c.2 : Int), .int .u16 (X.d.1 : Int), .int .u16 (X.d.2 : Int), .int .u8 (X.m.1 : Int), .int .u8 (X.m.2 : Int)] 33)) (.cells #[.int .u32 (Y.a.1 : Int), .int .u32 (Y.a.2 : Int), .int .u32 (Y.b.1 : Int), .int .u32 (Y.b.2 : Int), .int .u16 (Y.c.1 : Int), .int .u16 (Y.c.2 : Int), .int .u16 (Y.d.1 : Int), .int .u16 (Y.d.2 : Int), .int .u8 (Y.m.1 : Int), .int .u8 (Y.m.2 : Int)] 33)) _) hb1
          have hR1 : Hid (w1.heap[w.heap.size + 1 + 1]? = some (.cells #[.int .u32 0, .int .u32 0, .int .u32 0, .int .u32 0, .int .u16 0, .int .u16 0, .int .u16 0, .int .u16 0, .int .u8 0, .int .u8 0] 33)) := blk_on (by simpa using blk_new ((w.alloc (.cells #[.int .u32 (X.a.1 : Int), .int .u32 (X.a.2 : Int), .int .u32 (X.b.1 : Int), .int .u32 (X.b.2 : Int), .int .u16 (X.c.1 : Int), .int .u16 (X.c.2 : Int), .int .u16 (X.d.1 : Int), .int .u16 (X.d.2 : Int), .int .u8 (X.m.1 : Int), .int .u8 (X.m.2 : Int)] 33)).alloc (.cells #[.int .u32 (Y.a.1 : Int), .int .u32 (Y.a.2 : Int), .int .u32 (Y.b.1 : Int), .int .u32 (Y.b.2 : Int), .int .u16 (Y.c.1 : Int), .int .u16 (Y.c.2 : Int), .int .u16 (Y.d.1 : Int), .int .u16 (Y.d.2 : Int), .int .u8 (Y.m.1 : Int), .int .u8 (Y.m.2 : Int)] 33)) (.cells #[.int .u32 0, .int .u32 0, .int .u32 0, .int .u32 0, .int .u16 0, .int .u16 0, .int .u16 0, .int .u16 0, .int .u8 0, .int .u8 0] 33)) hb1
          have HX1 : Hid (w1.heap[w.heap.size]? = some (.cells #[.int .u32 (X.a.1 : Int), .int .u32 (X.a.2 : Int), .int .u32 (X.b.1 : Int), .int .u32 (X.b.2 : Int), .int .u16 (X.c.1 : Int), .int .u16 (X.c.2 : Int), .int .u16 (X.d.1 : Int), .int .u16 (X.d.2 : Int), .int .u8 (X.m.1 : Int), .int .u8 (X.m.2 : Int)] 33)) := hX1
          have HY1 : Hid (w1.heap[w.heap.size + 1]? = some (.cells #[.int .u32 (Y.a.1 : Int), .int .u32 (Y.a.2 : Int), .int .u32 (Y.b.1 : Int), .int .u32 (Y.b.2 : Int), .int .u16 (Y.c.1 : Int), .int .u16 (Y.c.2 : Int), .int .u16 (Y.d.1 : Int), .int .u16 (Y.d.2 : Int), .int .u8 (Y.m.1 : Int), .int .u8 (Y.m.2 : Int)] 33)) := hY1
          obtain ⟨c0, c1, c2, c3, c4, c5, c6, c7, c8, c9⟩ := blk10 hY1
          have hbl1 : Hid (Below w.heap.size w w1) := by show Below _ _ _; (repeat (first | assumption | exact Below.refl _ _ | refine Below.drew ?_ | refine bel_drewN ?_ _ | refine Below.setCell ?_ (by first | omega | (simp; done) | (simp; omega)) _ | refine Below.alloc ?_ (by first | omega | (simp; done) | (simp; omega)) _ | refine bel_of ?_ (by assumption)))
          clear hb1 hC1 hX1 hY1
          go_wp2_with (fail)
          refine (hC2 _).mono ?_
          rintro e w2 ⟨rfl, hb2⟩
          have HX2 : Hid (w2.heap[w.heap.size]? = some (.cells #[.int .u32 (X.a.1 : Int), .int .u32 (X.a.2 : Int), .int .u32 (X.b.1 : Int), .int .u32 (X.b.2 : Int), .int .u16 (X.c.1 : Int), .int .u16 (X.c.2 : Int), .int .u16 (X.d.1 : Int), .int .u16 (X.d.2 : Int), .int .u8 (X.m.1 : Int), .int .u8 (X.m.2 : Int)] 33)) := blk_on HX1.out hb2
          have HY2 : Hid (w2.heap[w.heap.size + 1]? = some (.cells #[.int .u32 (Y.a.1 : Int), .int .u32 (Y.a.2 : Int), .int .u32 (Y.b.1 : Int), .int .u32 (Y.b.2 : Int), .int .u16 (Y.c.1 : Int), .int .u16 (Y.c.2 : Int), .int .u16 (Y.d.1 : Int), .int .u16 (Y.d.2 : Int), .int .u8 (Y.m.1 : Int), .int .u8 (Y.m.2 : Int)] 33)) := blk_on HY1.out hb2
          have hR2 : Hid (w2.heap[w.heap.size + 1 + 1]? = some (.cells #[.int .u32 0, .int .u32 0, .int .u32 0, .int .u32 0, .int .u16 0, .int .u16 0, .int .u16 0, .int .u16 0, .int .u8 0, .int .u8 0] 33)) := blk_on hR1.out hb2
          have hbl2 : Hid (Below w.heap.size w w2) := hbl1.out.trans (hb2.mono hbl1.out.size)
          clear hb2 hC2 c0 c1 c2 c3 c4 c5 c6 c7 c8 c9 HX1 HY1 hR1 hbl1
          obtain ⟨c0, c1, c2, c3, c4, c5, c6, c7, c8, c9⟩ := blk10 HX2.out
          obtain ⟨d0, d1, d2, d3, d4, d5, d6, d7, d8, d9⟩ := blk10 HY2.out
          go_wp2_with (fail)
          refine (hMm _).mono ?_
          rintro e w3 ⟨rfl, hb3⟩
          have HX3 := blk_on HX2.out hb3
          have HY3 := blk_on HY2.out hb3
          have hR3 : Hid (w3.heap[w.heap.size + 1 + 1]? = some (.cells #[.int .u32 0, .int .u32 0, .int .u32 0, .int .u32 0, .int .u16 0, .int .u16 0, .int .u16 0, .int .u16 0, .int .u8 0, .int .u8 0] 33)) := blk_on hR2.out hb3
          have hbl3 : Hid (Below w.heap.size w w3) := hbl2.out.trans (hb3.mono hbl2.out.size)
          clear hb3 hMm c0 c1 c2 c3 c4 c5 c6 c7 c8 c9 d0 d1 d2 d3 d4 d5 d6 d7 d8 d9 HX2 HY2 hR2 hbl2
          obtain ⟨c0, c1, c2, c3, c4, c5, c6, c7, c8, c9⟩ := blk10 HX3
          obtain ⟨d0, d1, d2, d3, d4, d5, d6, d7, d8, d9⟩ := blk10 HY3
          have hlt3 := blk_lt hR3.out
          have hl0 : w.heap.size < w3.heap.size := by omega
          have hl1 : w.heap.size + 1 < w3.heap.size := by omega
          have n0 : ¬ w.heap.size = w3.heap.size := by omega
          have n1 : ¬ w.heap.size + 1 = w3.heap.size := by omega
          clear HX3 HY3
          go_wp2_with (fail)
          refine (hC3 _).mono ?_
          rintro e w4 ⟨rfl, hb4⟩
          have hR4 := blk_on (blk_alloc (blk_alloc hR3.out _) _) hb4
          have hbl4 : Hid (Below w.heap.size w w4) := ((hbl3.out.alloc (by omega) _).alloc (by simp; omega) _).trans (hb4.mono (by simp; omega))
          have hM4 : w4.heap[w3.heap.size + 1]? = some (.cells #[.int .u32 (M.a.1 : Int), .int .u32 (M.a.2 : Int), .int .u32 (M.b.1 : Int), .int .u32 (M.b.2 : Int), .int .u16 (M.c.1 : Int), .int .u16 (M.c.2 : Int), .int .u16 (M.d.1 : Int), .int .u16 (M.d.2 : Int), .int .u8 (M.m.1 : Int), .int .u8 (M.m.2 : Int)] 33) := blk_on (by simpa using blk_new (w3.alloc (.cells #[.int .u8 (M.m.1 : Int), .int .u8 (M.m.2 : Int)] 31)) (.cells #[.int .u32 (M.a.1 : Int), .int .u32 (M.a.2 : Int), .int .u32 (M.b.1 : Int), .int .u32 (M.b.2 : Int), .int .u16 (M.c.1 : Int), .int .u16 (M.c.2 : Int), .int .u16 (M.d.1 : Int), .int .u16 (M.d.2 : Int), .int .u8 (M.m.1 : Int), .int .u8 (M.m.2 : Int)] 33)) hb4
          clear hb4 hC3 c0 c1 c2 c3 c4 c5 c6 c7 c8 c9 d0 d1 d2 d3 d4 d5 d6 d7 d8 d9
          obtain ⟨c0, c1, c2, c3, c4, c5, c6, c7, c8, c9⟩ := blk10 hM4
          go_wp2_with (refine wpList_store_blk rfl 33 (.tmp 4) (.tmp 96) rfl (w.heap.size + 1 + 1) 0 #[.int .u32 (M.a.1 : Int), .int .u32 (M.a.2 : Int), .int .u32 (M.b.1 : Int), .int .u32 (M.b.2 : Int), .int .u16 (M.c.1 : Int), .int .u16 (M.c.2 : Int), .int .u16 (M.d.1 : Int), .int .u16 (M.d.2 : Int), .int .u8 (M.m.1 : Int), .int .u8 (M.m.2 : Int)] #[.int .u32 (M.a.1 : Int), .int .u32 (M.a.2 : Int), .int .u32 (M.b.1 : Int), .int .u32 (M.b.2 : Int), .int .u16 (M.c.1 : Int), .int .u16 (M.c.2 : Int), .int .u16 (M.d.1 : Int), .int .u16 (M.d.2 : Int), .int .u8 (M.m.1 : Int), .int .u8 (M.m.2 : Int)] rfl rfl 33 _ hR4 (Nat.le_of_ble_eq_true rfl) rfl (by kernel_rfl) rfl ?_; intro w5 h5 ho5)
          exact bodyPost_ret (results_blk2 Try.results21 rfl h5 Try.underlying33 rfl (by kernel_rfl)) rfl ⟨rfl, hbl4.out.trans (ho5.below (by omega))⟩
      · have hMm := fun W => rmeet_no X.m.1 X.m.2 Y.m.1 Y.m.2 W bX.2.2.2.2.2.2.2.2.1 bX.2.2.2.2.2.2.2.2.2 bY.2.2.2.2.2.2.2.2.1 bY.2.2.2.2.2.2.2.2.2 (by rw [ox.2.2.2.2, oy.2.2.2.2, hap]; rfl)
        have hbo : bothX X Y = false := by unfold bothX; rw [hx, hy, hap]; rfl
        rw [show meetX X Y = zeroX by unfold meetX; rw [hbo]; rfl, hbo]
        clear hbo hx hy hap ox oy hM bX bY bM
        go_enter Try.func21, Try.ntmps21
        go_wp2_with (fail)
        refine (hC1 _).mono ?_
        rintro e w1 ⟨rfl, hb1⟩
        have hX1 : w1.heap[w.heap.size]? = some (.cells #[.int .u32 (X.a.1 : Int), .int .u32 (X.a.2 : Int), .int .u32 (X.b.1 : Int), .int .u32 (X.b.2 : Int), .int .u16 (X.c.1 : Int), .int .u16 (X.c.2 : Int), .int .u16 (X.d.1 : Int), .int .u16 (X.d.2 : Int), .int .u8 (X.m.1 : Int), .int .u8 (X.m.2 : Int)] 33) := blk_on (blk_alloc (blk_alloc (blk_new w (.cells #[.int .u32 (X.a.1 : Int), .int .u32 (X.a.2 : Int), .int .u32 (X.b.1 : Int), .int .u32 (X.b.2 : Int), .int .u16 (X.c.1 : Int), .int .u16 (X.c.2 : Int), .int .u16 (X.d.1 : Int), .int .u16 (X.d.2 : Int), .int .u8 (X.m.1 : Int), .int .u8 (X.m.2 : Int)] 33)) _) _) hb1
        have hY1 : w1.heap[w.heap.size + 1]? = some (.cells #[.int .u32 (Y.a.1 : Int), .int .u32 (Y.a.2 : Int), .int .u32 (Y.b.1 : Int), .int .u32 (Y.b.2 : Int), .int .u16 (Y.c.1 : Int), .int .u16 (Y.c.2 : Int), .int .u16 (Y.d.1 : Int), .int .u16 (Y.d.2 : Int), .int .u8 (Y.m.1 : Int), .int .u8 (Y.m.2 : Int)] 33) := blk_on (blk_alloc (by simpa using blk_new (w.alloc (.cells #[.int .u32 (X.a.1 : Int), .int .u32 (X.a.2 : Int), .int .u32 (X.b.1 : Int), .int .u32 (X.b.2 : Int), .int .u16 (X.c.1 : Int), .int .u16 (X.c.2 : Int), .int .u16 (X.d.1 : Int), .int .u16 (X.d.2 : Int), .int .u8 (X.m.1 : Int), .int .u8 (X.m.2 : Int)] 33)) (.cells #[.int .u32 (Y.a.1 : Int), .int .u32 (Y.a.2 : Int), .int .u32 (Y.b.1 : Int), .int .u32 (Y.b.2 : Int), .int .u16 (Y.c.1 : Int), .int .u16 (Y.c.2 : Int), .int .u16 (Y.d.1 : Int), .int .u16 (Y.d.2 : Int), .int .u8 (Y.m.1 : Int), .int .u8 (Y.m.2 : Int)] 33)) _) hb1
        have hR1 : Hid (w1.heap[w.heap.size + 1 + 1]? = some (.cells #[.int .u32 0, .int .u32 0, .int .u32 0, .int .u32 0, .int .u16 0, .int .u16 0, .int .u16 0, .int .u16 0, .int .u8 0, .int .u8 0] 33)) := blk_on (by simpa using blk_new ((w.alloc (.cells #[.int .u32 (X.a.1 : Int), .int .u32 (X.a.2 : Int), .int .u32 (X.b.1 : Int), .int .u32 (X.b.2 : Int), .int .u16 (X.c.1 : Int), .int .u16 (X.c.2 : Int), .int .u16 (X.d.1 : Int), .int .u16 (X.d.2 : Int), .int .u8 (X.m.1 : Int), .int .u8 (X.m.2 : Int)] 33)).alloc (.cells #[.int .u32 (Y.a.1 : Int), .int .u32 (Y.a.2 : Int), .int .u32 (Y.b.1 : Int), .int .u32 (Y.b.2 : Int), .int .u16 (Y.c.1 : Int), .int .u16 (Y.c.2 : Int), .int .u16 (Y.d.1 : Int), .int .u16 (Y.d.2 : Int), .int .u8 (Y.m.1 : Int), .int .u8 (Y.m.2 : Int)] 33)) (.cells #[.int .u32 0, .int .u32 0, .int .u32 0, .int .u32 0, .int .u16 0, .int .u16 0, .int .u16 0, .int .u16 0, .int .u8 0, .int .u8 0] 33)) hb1
        have HX1 : Hid (w1.heap[w.heap.size]? = some (.cells #[.int .u32 (X.a.1 : Int), .int .u32 (X.a.2 : Int), .int .u32 (X.b.1 : Int), .int .u32 (X.b.2 : Int), .int .u16 (X.c.1 : Int), .int .u16 (X.c.2 : Int), .int .u16 (X.d.1 : Int), .int .u16 (X.d.2 : Int), .int .u8 (X.m.1 : Int), .int .u8 (X.m.2 : Int)] 33)) := hX1
        have HY1 : Hid (w1.heap[w.heap.size + 1]? = some (.cells #[.int .u32 (Y.a.1 : Int), .int .u32 (Y.a.2 : Int), .int .u32 (Y.b.1 : Int), .int .u32 (Y.b.2 : Int), .int .u16 (Y.c.1 : Int), .int .u16 (Y.c.2 : Int), .int .u16 (Y.d.1 : Int), .int .u16 (Y.d.2 : Int), .int .u8 (Y.m.1 : Int), .int .u8 (Y.m.2 : Int)] 33)) := hY1
        obtain ⟨c0, c1, c2, c3, c4, c5, c6, c7, c8, c9⟩ := blk10 hY1
        have hbl1 : Hid (Below w.heap.size w w1) := by show Below _ _ _; (repeat (first | assumption | exact Below.refl _ _ | refine Below.drew ?_ | refine bel_drewN ?_ _ | refine Below.setCell ?_ (by first | omega | (simp; done) | (simp; omega)) _ | refine Below.alloc ?_ (by first | omega | (simp; done) | (simp; omega)) _ | refine bel_of ?_ (by assumption)))
        clear hb1 hC1 hX1 hY1
        go_wp2_with (fail)
        refine (hC2 _).mono ?_
        rintro e w2 ⟨rfl, hb2⟩
        have HX2 : Hid (w2.heap[w.heap.size]? = some (.cells #[.int .u32 (X.a.1 : Int), .int .u32 (X.a.2 : Int), .int .u32 (X.b.1 : Int), .int .u32 (X.b.2 : Int), .int .u16 (X.c.1 : Int), .int .u16 (X.c.2 : Int), .int .u16 (X.d.1 : Int), .int .u16 (X.d.2 : Int), .int .u8 (X.m.1 : Int), .int .u8 (X.m.2 : Int)] 33)) := blk_on HX1.out hb2
        have HY2 : Hid (w2.heap[w.heap.size + 1]? = some (.cells #[.int .u32 (Y.a.1 : Int), .int .u32 (Y.a.2 : Int), .int .u32 (Y.b.1 : Int), .int .u32 (Y.b.2 : Int), .int .u16 (Y.c.1 : Int), .int .u16 (Y.c.2 : Int), .int .u16 (Y.d.1 : Int), .int .u16 (Y.d.2 : Int), .int .u8 (Y.m.1 : Int), .int .u8 (Y.m.2 : Int)] 33)) := blk_on HY1.out hb2
        have hR2 : Hid (w2.heap[w.heap.size + 1 + 1]? = some (.cells #[.int .u32 0, .int .u32 0, .int .u32 0, .int .u32 0, .int .u16 0, .int .u16 0, .int .u16 0, .int .u16 0, .int .u8 0, .int .u8 0] 33)) := blk_on hR1.out hb2
        have hbl2 : Hid (Below w.heap.size w w2) := hbl1.out.trans (hb2.mono hbl1.out.size)
        clear hb2 hC2 c0 c1 c2 c3 c4 c5 c6 c7 c8 c9 HX1 HY1 hR1 hbl1
        obtain ⟨c0, c1, c2, c3, c4, c5, c6, c7, c8, c9⟩ := blk10 HX2.out
        obtain ⟨d0, d1, d2, d3, d4, d5, d6, d7, d8, d9⟩ := blk10 HY2.out
        go_wp2_with (fail)
        refine (hMm _).mono ?_
        rintro e w3 ⟨rfl, hb3⟩
        have HX3 := blk_on HX2.out hb3
        have HY3 := blk_on HY2.out hb3
        have hR3 : Hid (w3.heap[w.heap.size + 1 + 1]? = some (.cells #[.int .u32 0, .int .u32 0, .int .u32 0, .int .u32 0, .int .u16 0, .int .u16 0, .int .u16 0, .int .u16 0, .int .u8 0, .int .u8 0] 33)) := blk_on hR2.out hb3
        have hbl3 : Hid (Below w.heap.size w w3) := hbl2.out.trans (hb3.mono hbl2.out.size)
        clear hb3 hMm c0 c1 c2 c3 c4 c5 c6 c7 c8 c9 d0 d1 d2 d3 d4 d5 d6 d7 d8 d9 HX2 HY2 hR2 hbl2
        obtain ⟨c0, c1, c2, c3, c4, c5, c6, c7, c8, c9⟩ := blk10 HX3
        obtain ⟨d0, d1, d2, d3, d4, d5, d6, d7, d8, d9⟩ := blk10 HY3
        have hlt3 := blk_lt hR3.out
        have hl0 : w.heap.size < w3.heap.size := by omega
        have hl1 : w.heap.size + 1 < w3.heap.size := by omega
        have n0 : ¬ w.heap.size = w3.heap.size := by omega
        have n1 : ¬ w.heap.size + 1 = w3.heap.size := by omega
        clear HX3 HY3
        go_wp2_with (refine wpList_store_blk rfl 33 (.tmp 4) (.tmp 95) rfl (w.heap.size + 1 + 1) 0 #[.int .u32 0, .int .u32 0, .int .u32 0, .int .u32 0, .int .u16 0, .int .u16 0, .int .u16 0, .int .u16 0, .int .u8 0, .int .u8 0] #[.int .u32 0, .int .u32 0, .int .u32 0, .int .u32 0, .int .u16 0, .int .u16 0, .int .u16 0, .int .u16 0, .int .u8 0, .int .u8 0] rfl rfl 33 _ (blk_alloc (blk_alloc hR3.out _) _) (Nat.le_of_ble_eq_true rfl) rfl (by kernel_rfl) rfl ?_; intro w5 h5 ho5)
        exact bodyPost_ret (results_blk2 Try.results21 rfl h5 Try.underlying33 rfl (by kernel_rfl)) rfl ⟨rfl, ((hbl3.out.alloc (by omega) _).alloc (by simp; omega) _).trans (ho5.below (by omega))⟩
set_option maxRecDepth 20000 in
set_option maxHeartbeats 1000000 in
theorem rwithinX (X Y : Bx) (w : World) (bX : BdX X) (bY : BdX Y) : Calls Try.prog 23 #[.agg #[.int .u32 (X.a.1 : Int), .int .u32 (X.a.2 : Int), .int .u32 (X.b.1 : Int), .int .u32 (X.b.2 : Int), .int .u16 (X.c.1 : Int), .int .u16 (X.c.2 : Int), .int .u16 (X.d.1 : Int), .int .u16 (X.d.2 : Int), .int .u8 (X.m.1 : Int), .int .u8 (X.m.2 : Int)], .agg #[.int .u32 (Y.a.1 : Int), .int .u32 (Y.a.2 : Int), .int .u32 (Y.b.1 : Int), .int .u32 (Y.b.2 : Int), .int .u16 (Y.c.1 : Int), .int .u16 (Y.c.2 : Int), .int .u16 (Y.d.1 : Int), .int .u16 (Y.d.2 : Int), .int .u8 (Y.m.1 : Int), .int .u8 (Y.m.2 : Int)]] w fun e w' => e = .returned (.bool (wiX X Y)) ∧ Below w.heap.size w w' := by
  have hM := fun W => rmeetX X Y W bX bY
  have he := fun W => eqX_any (meetX X Y) X W
  cases hb : bothX X Y
  · rw [show wiX X Y = false by unfold wiX; rw [hb]; rfl]
    rw [hb] at hM
    generalize meetX X Y = M at *
    clear hb bX bY he
    go_enter Try.func23, Try.ntmps23
    go_wp2_with (fail)
    refine (hM _).mono ?_
    rintro e w1 ⟨rfl, hb1⟩
    have hbl : Hid (Below w.heap.size w w1) := by show Below _ _ _; (repeat (first | assumption | exact Below.refl _ _ | refine Below.drew ?_ | refine bel_drewN ?_ _ | refine Below.setCell ?_ (by first | omega | (simp; done) | (simp; omega)) _ | refine Below.alloc ?_ (by first | omega | (simp; done) | (simp; omega)) _ | refine bel_of ?_ (by assumption)))
    have hz := hbl.out.size
    clear hb1 hM
    go_wp2
    go_ret
    exact ⟨rfl, hbl.out.alloc hz _⟩
  · rw [show wiX X Y = decide (meetX X Y = X) by unfold wiX meetX; rw [hb]; rfl]
    rw [hb] at hM
    generalize meetX X Y = M at *
    generalize decide (M = X) = r at *
    clear hb bX bY
    go_enter Try.func23, Try.ntmps23
    go_wp2_with (fail)
    refine (hM _).mono ?_
    rintro e w1 ⟨rfl, hb1⟩
    have hX1 := blk_on (blk_alloc (blk_new w (.cells #[.int .u32 (X.a.1 : Int), .int .u32 (X.a.2 : Int), .int .u32 (X.b.1 : Int), .int .u32 (X.b.2 : Int), .int .u16 (X.c.1 : Int), .int .u16 (X.c.2 : Int), .int .u16 (X.d.1 : Int), .int .u16 (X.d.2 : Int), .int .u8 (X.m.1 : Int), .int .u8 (X.m.2 : Int)] 33)) _) hb1
    obtain ⟨c0, c1, c2, c3, c4, c5, c6, c7, c8, c9⟩ := blk10 hX1
    have hlt := blk_lt hX1
    have n0 : ¬ w.heap.size = w1.heap.size := by omega
    have hbl : Hid (Below w.heap.size w w1) := by show Below _ _ _; (repeat (first | assumption | exact Below.refl _ _ | refine Below.drew ?_ | refine bel_drewN ?_ _ | refine Below.setCell ?_ (by first | omega | (simp; done) | (simp; omega)) _ | refine Below.alloc ?_ (by first | omega | (simp; done) | (simp; omega)) _ | refine bel_of ?_ (by assumption)))
    clear hb1 hX1 hM
    go_wp2
    go_ret
    exact ⟨rfl, hbl.out.alloc (by omega) _⟩
end Go.Proofs.Ythggiblkehcfaaa
