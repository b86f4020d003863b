/-
  The document's examples (awake).
-/
import Derived.Test.YthggiblkehcfaaaBxZ
import Derived.Test.YthggiblkehcfaaaBxN
namespace Go.Proofs.Ythggiblkehcfaaa
open Go.RowKit
set_option linter.unusedVariables false
set_option linter.unusedSimpArgs false

theorem cell_allocB' {w : World} {p : Addr} {v : Value} {o : Obj} (h : w.cell? p = some v) : (w.alloc o).cell? p = some v := cell_on1 ((Below.refl _ _).alloc (Nat.le_refl _) o) h
theorem cnt_whole : hiW (cntX wholeX) = 1099511627776 ∧ loW (cntX wholeX) = 0 := by decide +kernel
def dX : Bx := ⟨(0, 4294967295), (0, 4294967295), (0, 65535), (80, 80), (0, 0)⟩
def pX : Bx := ⟨(0, 4294967295), (0, 4294967295), (0, 65535), (0, 65535), (6, 255)⟩
def aX : Bx := ⟨(0, 4294967295), (0, 4294967295), (0, 9), (0, 65535), (0, 0)⟩
def bX : Bx := ⟨(0, 4294967295), (0, 4294967295), (5, 20), (0, 65535), (0, 0)⟩
def cX : Bx := ⟨(0, 4294967295), (0, 4294967295), (5, 9), (0, 65535), (0, 0)⟩
theorem less_d : lessX wholeX dX = [⟨(0, 4294967295), (0, 4294967295), (0, 65535), (0, 79), (0, 0)⟩, ⟨(0, 4294967295), (0, 4294967295), (0, 65535), (81, 65535), (0, 0)⟩] := by decide +kernel
theorem less_p : (lessX wholeX pX).length = 8 ∧ (lessX wholeX pX)[7]? = some ⟨(0, 4294967295), (0, 4294967295), (0, 65535), (0, 65535), (7, 255)⟩ := by decide +kernel
theorem meet_ab : meetX aX bX = cX ∧ bothX aX bX = true := by decide +kernel
theorem bd_d : BdX dX := by unfold BdX dX; simp
theorem bd_p : BdX pX := by unfold BdX pX; simp
theorem bd_a : BdX aX := by unfold BdX aX; simp
theorem bd_b : BdX bX := by unfold BdX bX; simp
set_option maxRecDepth 20000 in
set_option maxHeartbeats 4000000 in
theorem awakeX (w : World) : Calls Try.prog 10 #[] w fun e w' => e = .returned (.bool true) ∧ Below w.heap.size w w' := by
  have hW : ∀ W, Calls Try.prog 9 #[] W fun e w' => e = .returned (.agg #[.int .u32 0, .int .u32 4294967295, .int .u32 0, .int .u32 4294967295, .int .u16 0, .int .u16 65535, .int .u16 0, .int .u16 65535, .int .u8 0, .int .u8 0]) ∧ Below W.heap.size W w' := fun W => wholeXC W
  have hN : ∀ W, Calls Try.prog 18 #[.agg #[.int .u32 0, .int .u32 4294967295, .int .u32 0, .int .u32 4294967295, .int .u16 0, .int .u16 65535, .int .u16 0, .int .u16 65535, .int .u8 0, .int .u8 0]] W fun e w' => e = .returned (.tuple #[.int .u64 1099511627776, .int .u64 0]) ∧ Below W.heap.size W w' := fun W => by
    have := countXC wholeX W wholeX_bd
    rw [cnt_whole.1, cnt_whole.2] at this
    exact this
  have hC : ∀ W, Calls Try.prog 13 #[.agg #[.int .u32 0, .int .u32 4294967295, .int .u32 0, .int .u32 4294967295, .int .u16 0, .int .u16 65535, .int .u16 0, .int .u16 65535, .int .u8 0, .int .u8 0]] W fun e w' => e = .returned (.int .i64 0) ∧ Below W.heap.size W w' := fun W => checkC wholeX W wholeX_bd
  have hL : ∀ W, Calls Try.prog 25 #[.agg #[.int .u32 0, .int .u32 4294967295, .int .u32 0, .int .u32 4294967295, .int .u16 0, .int .u16 65535, .int .u16 0, .int .u16 65535, .int .u8 0, .int .u8 0], .agg #[.int .u32 0, .int .u32 4294967295, .int .u32 0, .int .u32 4294967295, .int .u16 0, .int .u16 65535, .int .u16 80, .int .u16 80, .int .u8 0, .int .u8 0]] W fun e w' => ∃ v' : Value, e = .returned v' ∧ RowX w' W.heap.size v' (lessX wholeX dX) ∧ Below W.heap.size W w' := fun W => lessXC wholeX dX W wholeX_bd bd_d
  have hP : ∀ W, Calls Try.prog 25 #[.agg #[.int .u32 0, .int .u32 4294967295, .int .u32 0, .int .u32 4294967295, .int .u16 0, .int .u16 65535, .int .u16 0, .int .u16 65535, .int .u8 0, .int .u8 0], .agg #[.int .u32 0, .int .u32 4294967295, .int .u32 0, .int .u32 4294967295, .int .u16 0, .int .u16 65535, .int .u16 0, .int .u16 65535, .int .u8 6, .int .u8 255]] W fun e w' => ∃ v' : Value, e = .returned v' ∧ RowX w' W.heap.size v' (lessX wholeX pX) ∧ Below W.heap.size W w' := fun W => lessXC wholeX pX W wholeX_bd bd_p
  have hM : ∀ W, Calls Try.prog 20 #[.agg #[.int .u32 0, .int .u32 4294967295, .int .u32 0, .int .u32 4294967295, .int .u16 0, .int .u16 9, .int .u16 0, .int .u16 65535, .int .u8 0, .int .u8 0], .agg #[.int .u32 0, .int .u32 4294967295, .int .u32 0, .int .u32 4294967295, .int .u16 5, .int .u16 20, .int .u16 0, .int .u16 65535, .int .u8 0, .int .u8 0]] W fun e w' => e = .returned (.tuple #[.agg #[.int .u32 0, .int .u32 4294967295, .int .u32 0, .int .u32 4294967295, .int .u16 5, .int .u16 9, .int .u16 0, .int .u16 65535, .int .u8 0, .int .u8 0], .bool true]) ∧ Below W.heap.size W w' := fun W => by
    have := meetXC aX bX W bd_a bd_b
    rw [meet_ab.1, meet_ab.2] at this
    exact this
  go_enter Try.func10, Try.ntmps10
  go_wp2_with (fail)
  refine (hW _).mono ?_
  rintro e w1 ⟨rfl, hb1⟩
  have hbl1 : Hid (Below w.heap.size w w1) := hb1
  clear hb1 hW
  go_wp2_with (fail)
  refine (hN _).mono ?_
  rintro e w2 ⟨rfl, hb2⟩
  have HA2 : Hid (w2.heap[w1.heap.size]? = some (.cells #[.int .u32 0, .int .u32 4294967295, .int .u32 0, .int .u32 4294967295, .int .u16 0, .int .u16 65535, .int .u16 0, .int .u16 65535, .int .u8 0, .int .u8 0] 33)) := blk_on (blk_new w1 _) hb2
  have hbl2 : Hid (Below w.heap.size w w2) := (hbl1.out.alloc hbl1.out.size _).trans (hb2.mono (by have := hbl1.out.size; simp; omega))
  have hlt2 := blk_lt HA2.out
  have n2 : ¬ w1.heap.size = w2.heap.size := by omega
  have hz2 := hbl2.out.size
  obtain ⟨c0, c1, c2, c3, c4, c5, c6, c7, c8, c9⟩ := blk10 HA2.out
  clear hb2 hN
  go_wp2_with (fail)
  refine (hL _).mono ?_
  rintro e w3 ⟨v3, rfl, hr3, hb3⟩
  rw [less_d] at hr3
  obtain ⟨ad3, cap3, rfl, hcap3, hat3⟩ := hr3.form
  obtain ⟨g3, rfl, hg3, hgl3, hc3⟩ := hat3 (by decide)
  have l0 : w3.cell? ⟨g3, 6, none⟩ = some (.int .u16 0) := hc3 0 (by decide) 6 (by decide)
  have l1 : w3.cell? ⟨g3, 7, none⟩ = some (.int .u16 79) := hc3 0 (by decide) 7 (by decide)
  have HA3 : Hid (w3.heap[w1.heap.size]? = some (.cells #[.int .u32 0, .int .u32 4294967295, .int .u32 0, .int .u32 4294967295, .int .u16 0, .int .u16 65535, .int .u16 0, .int .u16 65535, .int .u8 0, .int .u8 0] 33)) := blk_on (blk_alloc (blk_alloc HA2.out _) _) hb3
  have HP3 : w3.heap[w2.heap.size + 1]? = some (.cells #[.int .u32 0, .int .u32 4294967295, .int .u32 0, .int .u32 4294967295, .int .u16 0, .int .u16 65535, .int .u16 0, .int .u16 65535, .int .u8 6, .int .u8 255] 33) := blk_on (by simpa using blk_new (w2.alloc (.cells #[.int .u32 0, .int .u32 4294967295, .int .u32 0, .int .u32 4294967295, .int .u16 0, .int .u16 65535, .int .u16 80, .int .u16 80, .int .u8 0, .int .u8 0] 33)) (.cells #[.int .u32 0, .int .u32 4294967295, .int .u32 0, .int .u32 4294967295, .int .u16 0, .int .u16 65535, .int .u16 0, .int .u16 65535, .int .u8 6, .int .u8 255] 33)) hb3
  have hbl3 : Hid (Below w.heap.size w w3) := ((hbl2.out.alloc (by omega) _).alloc (by simp; omega) _).trans (hb3.mono (by simp; omega))
  clear c0 c1 c2 c3 c4 c5 c6 c7 c8 c9 hb3 hL hr3 hat3 hc3 hcap3 hg3
  obtain ⟨c0, c1, c2, c3, c4, c5, c6, c7, c8, c9⟩ := blk10 HA3.out
  obtain ⟨d0, d1, d2, d3, d4, d5, d6, d7, d8, d9⟩ := blk10 HP3
  go_wp2_with (fail)
  refine (hP _).mono ?_
  rintro e w4 ⟨v4, rfl, hr4, hb4⟩
  obtain ⟨ad4, cap4, rfl, hcap4, hat4⟩ := hr4.form
  obtain ⟨g4, rfl, hg4, hgl4, hc4⟩ := hat4 (by rw [less_p.1]; decide)
  have h7 : (lessX wholeX pX)[7]'(by rw [less_p.1]; decide) = ⟨(0, 4294967295), (0, 4294967295), (0, 65535), (0, 65535), (7, 255)⟩ := by
    have e := List.getElem?_eq_getElem (l := lessX wholeX pX) (i := 7) (by rw [less_p.1]; decide)
    exact Option.some.inj (e.symm.trans less_p.2)
  have m0 : w4.cell? ⟨g4, 78, none⟩ = some (.int .u8 7) := by
    have e := hc4 7 (by rw [less_p.1]; decide) 8 (by decide)
    rw [h7] at e
    exact e
  have m1 : w4.cell? ⟨g4, 79, none⟩ = some (.int .u8 255) := by
    have e := hc4 7 (by rw [less_p.1]; decide) 9 (by decide)
    rw [h7] at e
    exact e
  rw [less_p.1] at hcap4 ⊢
  have k0 := cell_on1 hb4 l0
  have k1 := cell_on1 hb4 l1
  have HA4 : Hid (w4.heap[w1.heap.size]? = some (.cells #[.int .u32 0, .int .u32 4294967295, .int .u32 0, .int .u32 4294967295, .int .u16 0, .int .u16 65535, .int .u16 0, .int .u16 65535, .int .u8 0, .int .u8 0] 33)) := blk_on HA3.out hb4
  have hbl4 : Hid (Below w.heap.size w w4) := hbl3.out.trans (hb4.mono hbl3.out.size)
  have hz4 := hb4.size
  have hgl3' : g3 < w4.heap.size := by omega
  clear c0 c1 c2 c3 c4 c5 c6 c7 c8 c9 d0 d1 d2 d3 d4 d5 d6 d7 d8 d9 hb4 hP hr4 hat4 hc4 hcap4 hg4 l0 l1 h7 HP3 HA3 HA2 hlt2 n2
  have hlt4 := blk_lt HA4.out
  have n4 : ¬ w1.heap.size = w4.heap.size := by omega
  obtain ⟨c0, c1, c2, c3, c4, c5, c6, c7, c8, c9⟩ := blk10 HA4.out
  go_wp2_with (fail)
  refine (hM _).mono ?_
  rintro e w5 ⟨rfl, hb5⟩
  have q0 := cell_on1 hb5 (cell_allocB' (cell_allocB' k0))
  have q1 := cell_on1 hb5 (cell_allocB' (cell_allocB' k1))
  have r0 := cell_on1 hb5 (cell_allocB' (cell_allocB' m0))
  have r1 := cell_on1 hb5 (cell_allocB' (cell_allocB' m1))
  have HA5 : Hid (w5.heap[w1.heap.size]? = some (.cells #[.int .u32 0, .int .u32 4294967295, .int .u32 0, .int .u32 4294967295, .int .u16 0, .int .u16 65535, .int .u16 0, .int .u16 65535, .int .u8 0, .int .u8 0] 33)) := blk_on (blk_alloc (blk_alloc HA4.out _) _) hb5
  have hz4' := hbl4.out.size
  have hbl5 : Hid (Below w.heap.size w w5) := ((hbl4.out.alloc (by omega) _).alloc (by simp; omega) _).trans (hb5.mono (by simp; omega))
  have hz5 := hb5.size
  simp at hz5
  clear c0 c1 c2 c3 c4 c5 c6 c7 c8 c9 hb5 hM k0 k1 m0 m1 n4
  have x1 : g3 < w5.heap.size := by omega
  have x2 : g4 < w5.heap.size := by omega
  have y1 : ¬ g3 = w5.heap.size := by omega
  have y2 : ¬ g4 = w5.heap.size := by omega
  have x3 : w1.heap.size < w5.heap.size := by omega
  have y3 : ¬ w1.heap.size = w5.heap.size := by omega
  have hz5' := hbl5.out.size
  obtain ⟨c0, c1, c2, c3, c4, c5, c6, c7, c8, c9⟩ := blk10 HA5.out
  go_wp2_with (fail)
  refine (hC _).mono ?_
  rintro e w6 ⟨rfl, hb6⟩
  have hbl6 : Hid (Below w.heap.size w w6) := (hbl5.out.alloc (by omega) _).trans (hb6.mono (by simp; omega))
  clear hb6
  go_wp2
  go_ret
  exact ⟨rfl, hbl6.out⟩

end Go.Proofs.Ythggiblkehcfaaa
