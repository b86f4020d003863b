/-
  HeaderBits, out of what the functions of header hand back.
-/
import Derived.Test.YtpgadbiohmofeaaHdAw
namespace Go.Proofs.Ytpgadbiohmofeaa
open Go.RowKit
set_option linter.unusedVariables false
set_option linter.unusedSimpArgs false

set_option maxHeartbeats 1000000 in
theorem headerBits_core (hBn : BitN) (hBc : BitC) (hTn : TrnN) (hTc : TrnC) (hA : ∀ w : World, Calls Try.prog 9 #[] w fun e w' => e = .returned (.bool true) ∧ Below w.heap.size w w') (h : Hd) (i : Int) (o : OkH h) (w : World) :
    Calls Try.prog 4 #[.agg #[.int .u32 (h.s : Int), .int .u32 (h.d : Int), .int .u16 (h.p : Int), .int .u16 (h.q : Int), .int .u8 (h.r : Int)], .int .i64 i] w fun e w' => e = .returned (.bool true) ∧ Below w.heap.size w w' := by
  by_cases hi : i < 0 ∨ 103 < i
  · have k1 := fun W => hBn h i W o hi
    have k2 := fun W => rBitN h i W hi
    have k3 := fun W => hTn h i W o hi
    have k4 := fun W => rTurnN h i W hi
    clear hi hBn hBc hTn hTc
    generalize h0 = y at *
    go_enter Try.func4, Try.ntmps4
    go_wp2_with (fail)
    refine (k1 _).mono ?_
    rintro e w1 ⟨rfl, hb1⟩
    have hz1 := hb1.size
    (try simp at hz1)
    have h0_1 : w1.cell? ⟨w.heap.size, 0, none⟩ = some (.int .u32 (h.s : Int)) := cell_on hb1 (show (w.alloc (.cells #[.int .u32 (h.s : Int), .int .u32 (h.d : Int), .int .u16 (h.p : Int), .int .u16 (h.q : Int), .int .u8 (h.r : Int)] 25)).cell? ⟨w.heap.size, 0, none⟩ = some (.int .u32 (h.s : Int)) from by simp [go_sem])
    have h1_1 : w1.cell? ⟨w.heap.size, 1, none⟩ = some (.int .u32 (h.d : Int)) := cell_on hb1 (show (w.alloc (.cells #[.int .u32 (h.s : Int), .int .u32 (h.d : Int), .int .u16 (h.p : Int), .int .u16 (h.q : Int), .int .u8 (h.r : Int)] 25)).cell? ⟨w.heap.size, 1, none⟩ = some (.int .u32 (h.d : Int)) from by simp [go_sem])
    have h2_1 : w1.cell? ⟨w.heap.size, 2, none⟩ = some (.int .u16 (h.p : Int)) := cell_on hb1 (show (w.alloc (.cells #[.int .u32 (h.s : Int), .int .u32 (h.d : Int), .int .u16 (h.p : Int), .int .u16 (h.q : Int), .int .u8 (h.r : Int)] 25)).cell? ⟨w.heap.size, 2, none⟩ = some (.int .u16 (h.p : Int)) from by simp [go_sem])
    have h3_1 : w1.cell? ⟨w.heap.size, 3, none⟩ = some (.int .u16 (h.q : Int)) := cell_on hb1 (show (w.alloc (.cells #[.int .u32 (h.s : Int), .int .u32 (h.d : Int), .int .u16 (h.p : Int), .int .u16 (h.q : Int), .int .u8 (h.r : Int)] 25)).cell? ⟨w.heap.size, 3, none⟩ = some (.int .u16 (h.q : Int)) from by simp [go_sem])
    have h4_1 : w1.cell? ⟨w.heap.size, 4, none⟩ = some (.int .u8 (h.r : Int)) := cell_on hb1 (show (w.alloc (.cells #[.int .u32 (h.s : Int), .int .u32 (h.d : Int), .int .u16 (h.p : Int), .int .u16 (h.q : Int), .int .u8 (h.r : Int)] 25)).cell? ⟨w.heap.size, 4, none⟩ = some (.int .u8 (h.r : Int)) from by simp [go_sem])
    have hg1_0 : w.heap.size < w1.heap.size := by omega
    have hl1 : w.heap.size ≤ w1.heap.size := by omega
    have hw1 : Hid (Below w.heap.size w w1) := ((Below.refl _ _).alloc (by first | omega | (simp; done) | (simp; omega)) _).trans (hb1.mono (by first | omega | (simp; done) | (simp; omega)))
    clear hb1
    go_wp2_with (fail)
    refine (k2 _).mono ?_
    rintro e w2 ⟨rfl, hb2⟩
    have hz2 := hb2.size
    (try simp at hz2)
    have h0_2 : w2.cell? ⟨w.heap.size, 0, none⟩ = some (.int .u32 (h.s : Int)) := cell_on hb2 h0_1
    have h1_2 : w2.cell? ⟨w.heap.size, 1, none⟩ = some (.int .u32 (h.d : Int)) := cell_on hb2 h1_1
    have h2_2 : w2.cell? ⟨w.heap.size, 2, none⟩ = some (.int .u16 (h.p : Int)) := cell_on hb2 h2_1
    have h3_2 : w2.cell? ⟨w.heap.size, 3, none⟩ = some (.int .u16 (h.q : Int)) := cell_on hb2 h3_1
    have h4_2 : w2.cell? ⟨w.heap.size, 4, none⟩ = some (.int .u8 (h.r : Int)) := cell_on hb2 h4_1
    have hg2_0 : w.heap.size < w2.heap.size := by omega
    have hl2 : w.heap.size ≤ w2.heap.size := by omega
    have hw2 : Hid (Below w.heap.size w w2) := hw1.out.trans (hb2.mono (by first | omega | (simp; done) | (simp; omega)))
    clear hb2 h0_1 h1_1 h2_1 h3_1 h4_1 hg1_0 hw1
    go_wp2_with (fail)
    refine (k3 _).mono ?_
    rintro e w3 ⟨rfl, hb3⟩
    have hz3 := hb3.size
    (try simp at hz3)
    have h0_3 : w3.cell? ⟨w.heap.size, 0, none⟩ = some (.int .u32 (h.s : Int)) := cell_on hb3 h0_2
    have h1_3 : w3.cell? ⟨w.heap.size, 1, none⟩ = some (.int .u32 (h.d : Int)) := cell_on hb3 h1_2
    have h2_3 : w3.cell? ⟨w.heap.size, 2, none⟩ = some (.int .u16 (h.p : Int)) := cell_on hb3 h2_2
    have h3_3 : w3.cell? ⟨w.heap.size, 3, none⟩ = some (.int .u16 (h.q : Int)) := cell_on hb3 h3_2
    have h4_3 : w3.cell? ⟨w.heap.size, 4, none⟩ = some (.int .u8 (h.r : Int)) := cell_on hb3 h4_2
    have hg3_0 : w.heap.size < w3.heap.size := by omega
    have hl3 : w.heap.size ≤ w3.heap.size := by omega
    have hw3 : Hid (Below w.heap.size w w3) := hw2.out.trans (hb3.mono (by first | omega | (simp; done) | (simp; omega)))
    clear hb3 h0_2 h1_2 h2_2 h3_2 h4_2 hg2_0 hw2
    go_wp2_with (fail)
    refine (k4 _).mono ?_
    rintro e w4 ⟨rfl, hb4⟩
    have hz4 := hb4.size
    (try simp at hz4)
    have h0_4 : w4.cell? ⟨w.heap.size, 0, none⟩ = some (.int .u32 (h.s : Int)) := cell_on hb4 (cell_alloc h0_3)
    have h1_4 : w4.cell? ⟨w.heap.size, 1, none⟩ = some (.int .u32 (h.d : Int)) := cell_on hb4 (cell_alloc h1_3)
    have h2_4 : w4.cell? ⟨w.heap.size, 2, none⟩ = some (.int .u16 (h.p : Int)) := cell_on hb4 (cell_alloc h2_3)
    have h3_4 : w4.cell? ⟨w.heap.size, 3, none⟩ = some (.int .u16 (h.q : Int)) := cell_on hb4 (cell_alloc h3_3)
    have h4_4 : w4.cell? ⟨w.heap.size, 4, none⟩ = some (.int .u8 (h.r : Int)) := cell_on hb4 (cell_alloc h4_3)
    have x0_4 : w4.cell? ⟨w3.heap.size, 0, none⟩ = some (.int .u32 (y.s : Int)) := cell_on hb4 (show (w3.alloc (.cells #[.int .u32 (y.s : Int), .int .u32 (y.d : Int), .int .u16 (y.p : Int), .int .u16 (y.q : Int), .int .u8 (y.r : Int)] 25)).cell? ⟨w3.heap.size, 0, none⟩ = some (.int .u32 (y.s : Int)) from by simp [go_sem])
    have x1_4 : w4.cell? ⟨w3.heap.size, 1, none⟩ = some (.int .u32 (y.d : Int)) := cell_on hb4 (show (w3.alloc (.cells #[.int .u32 (y.s : Int), .int .u32 (y.d : Int), .int .u16 (y.p : Int), .int .u16 (y.q : Int), .int .u8 (y.r : Int)] 25)).cell? ⟨w3.heap.size, 1, none⟩ = some (.int .u32 (y.d : Int)) from by simp [go_sem])
    have x2_4 : w4.cell? ⟨w3.heap.size, 2, none⟩ = some (.int .u16 (y.p : Int)) := cell_on hb4 (show (w3.alloc (.cells #[.int .u32 (y.s : Int), .int .u32 (y.d : Int), .int .u16 (y.p : Int), .int .u16 (y.q : Int), .int .u8 (y.r : Int)] 25)).cell? ⟨w3.heap.size, 2, none⟩ = some (.int .u16 (y.p : Int)) from by simp [go_sem])
    have x3_4 : w4.cell? ⟨w3.heap.size, 3, none⟩ = some (.int .u16 (y.q : Int)) := cell_on hb4 (show (w3.alloc (.cells #[.int .u32 (y.s : Int), .int .u32 (y.d : Int), .int .u16 (y.p : Int), .int .u16 (y.q : Int), .int .u8 (y.r : Int)] 25)).cell? ⟨w3.heap.size, 3, none⟩ = some (.int .u16 (y.q : Int)) from by simp [go_sem])
    have x4_4 : w4.cell? ⟨w3.heap.size, 4, none⟩ = some (.int .u8 (y.r : Int)) := cell_on hb4 (show (w3.alloc (.cells #[.int .u32 (y.s : Int), .int .u32 (y.d : Int), .int .u16 (y.p : Int), .int .u16 (y.q : Int), .int .u8 (y.r : Int)] 25)).cell? ⟨w3.heap.size, 4, none⟩ = some (.int .u8 (y.r : Int)) from by simp [go_sem])
    have hg4_0 : w.heap.size < w4.heap.size := by omega
    have hg4_1 : w3.heap.size < w4.heap.size := by omega
    have hl4 : w.heap.size ≤ w4.heap.size := by omega
    have hw4 : Hid (Below w.heap.size w w4) := (hw3.out.alloc (by first | omega | (simp; done) | (simp; omega)) _).trans (hb4.mono (by first | omega | (simp; done) | (simp; omega)))
    clear hb4 h0_3 h1_3 h2_3 h3_3 h4_3 hg3_0 hw3
    go_wp2_with (fail)
    refine (hA _).mono ?_
    rintro e w5 ⟨rfl, hb5⟩
    have hz5 := hb5.size
    (try simp at hz5)
    have h0_5 : w5.cell? ⟨w.heap.size, 0, none⟩ = some (.int .u32 (h.s : Int)) := cell_on hb5 (cell_alloc h0_4)
    have h1_5 : w5.cell? ⟨w.heap.size, 1, none⟩ = some (.int .u32 (h.d : Int)) := cell_on hb5 (cell_alloc h1_4)
    have h2_5 : w5.cell? ⟨w.heap.size, 2, none⟩ = some (.int .u16 (h.p : Int)) := cell_on hb5 (cell_alloc h2_4)
    have h3_5 : w5.cell? ⟨w.heap.size, 3, none⟩ = some (.int .u16 (h.q : Int)) := cell_on hb5 (cell_alloc h3_4)
    have h4_5 : w5.cell? ⟨w.heap.size, 4, none⟩ = some (.int .u8 (h.r : Int)) := cell_on hb5 (cell_alloc h4_4)
    have x0_5 : w5.cell? ⟨w3.heap.size, 0, none⟩ = some (.int .u32 (y.s : Int)) := cell_on hb5 (cell_alloc x0_4)
    have x1_5 : w5.cell? ⟨w3.heap.size, 1, none⟩ = some (.int .u32 (y.d : Int)) := cell_on hb5 (cell_alloc x1_4)
    have x2_5 : w5.cell? ⟨w3.heap.size, 2, none⟩ = some (.int .u16 (y.p : Int)) := cell_on hb5 (cell_alloc x2_4)
    have x3_5 : w5.cell? ⟨w3.heap.size, 3, none⟩ = some (.int .u16 (y.q : Int)) := cell_on hb5 (cell_alloc x3_4)
    have x4_5 : w5.cell? ⟨w3.heap.size, 4, none⟩ = some (.int .u8 (y.r : Int)) := cell_on hb5 (cell_alloc x4_4)
    have y0_5 : w5.cell? ⟨w4.heap.size, 0, none⟩ = some (.int .u32 (y.s : Int)) := cell_on hb5 (show (w4.alloc (.cells #[.int .u32 (y.s : Int), .int .u32 (y.d : Int), .int .u16 (y.p : Int), .int .u16 (y.q : Int), .int .u8 (y.r : Int)] 25)).cell? ⟨w4.heap.size, 0, none⟩ = some (.int .u32 (y.s : Int)) from by simp [go_sem])
    have y1_5 : w5.cell? ⟨w4.heap.size, 1, none⟩ = some (.int .u32 (y.d : Int)) := cell_on hb5 (show (w4.alloc (.cells #[.int .u32 (y.s : Int), .int .u32 (y.d : Int), .int .u16 (y.p : Int), .int .u16 (y.q : Int), .int .u8 (y.r : Int)] 25)).cell? ⟨w4.heap.size, 1, none⟩ = some (.int .u32 (y.d : Int)) from by simp [go_sem])
    have y2_5 : w5.cell? ⟨w4.heap.size, 2, none⟩ = some (.int .u16 (y.p : Int)) := cell_on hb5 (show (w4.alloc (.cells #[.int .u32 (y.s : Int), .int .u32 (y.d : Int), .int .u16 (y.p : Int), .int .u16 (y.q : Int), .int .u8 (y.r : Int)] 25)).cell? ⟨w4.heap.size, 2, none⟩ = some (.int .u16 (y.p : Int)) from by simp [go_sem])
    have y3_5 : w5.cell? ⟨w4.heap.size, 3, none⟩ = some (.int .u16 (y.q : Int)) := cell_on hb5 (show (w4.alloc (.cells #[.int .u32 (y.s : Int), .int .u32 (y.d : Int), .int .u16 (y.p : Int), .int .u16 (y.q : Int), .int .u8 (y.r : Int)] 25)).cell? ⟨w4.heap.size, 3, none⟩ = some (.int .u16 (y.q : Int)) from by simp [go_sem])
    have y4_5 : w5.cell? ⟨w4.heap.size, 4, none⟩ = some (.int .u8 (y.r : Int)) := cell_on hb5 (show (w4.alloc (.cells #[.int .u32 (y.s : Int), .int .u32 (y.d : Int), .int .u16 (y.p : Int), .int .u16 (y.q : Int), .int .u8 (y.r : Int)] 25)).cell? ⟨w4.heap.size, 4, none⟩ = some (.int .u8 (y.r : Int)) from by simp [go_sem])
    have hg5_0 : w.heap.size < w5.heap.size := by omega
    have hg5_1 : w3.heap.size < w5.heap.size := by omega
    have hg5_2 : w4.heap.size < w5.heap.size := by omega
    have hl5 : w.heap.size ≤ w5.heap.size := by omega
    have hw5 : Hid (Below w.heap.size w w5) := (hw4.out.alloc (by first | omega | (simp; done) | (simp; omega)) _).trans (hb5.mono (by first | omega | (simp; done) | (simp; omega)))
    clear hb5 h0_4 h1_4 h2_4 h3_4 h4_4 x0_4 x1_4 x2_4 x3_4 x4_4 hg4_0 hg4_1 hw4
    go_wp2
    go_ret
    exact ⟨rfl, hw5.out⟩
  · obtain ⟨k, rfl⟩ : ∃ k : Nat, i = (k : Int) := ⟨i.toNat, by omega⟩
    have hk : k < 104 := by omega
    have k1 := fun W => hBc h k W o hk
    have k2 := fun W => rBitC h k W o hk
    have k3 := fun W => hTc h k W o hk
    have k4 := fun W => rTurnC h k W o hk
    clear hi hBn hBc hTn hTc
    generalize turnH h k = y at *
    generalize bitH h k = z at *
    go_enter Try.func4, Try.ntmps4
    go_wp2_with (fail)
    refine (k1 _).mono ?_
    rintro e w1 ⟨rfl, hb1⟩
    have hz1 := hb1.size
    (try simp at hz1)
    have h0_1 : w1.cell? ⟨w.heap.size, 0, none⟩ = some (.int .u32 (h.s : Int)) := cell_on hb1 (show (w.alloc (.cells #[.int .u32 (h.s : Int), .int .u32 (h.d : Int), .int .u16 (h.p : Int), .int .u16 (h.q : Int), .int .u8 (h.r : Int)] 25)).cell? ⟨w.heap.size, 0, none⟩ = some (.int .u32 (h.s : Int)) from by simp [go_sem])
    have h1_1 : w1.cell? ⟨w.heap.size, 1, none⟩ = some (.int .u32 (h.d : Int)) := cell_on hb1 (show (w.alloc (.cells #[.int .u32 (h.s : Int), .int .u32 (h.d : Int), .int .u16 (h.p : Int), .int .u16 (h.q : Int), .int .u8 (h.r : Int)] 25)).cell? ⟨w.heap.size, 1, none⟩ = some (.int .u32 (h.d : Int)) from by simp [go_sem])
    have h2_1 : w1.cell? ⟨w.heap.size, 2, none⟩ = some (.int .u16 (h.p : Int)) := cell_on hb1 (show (w.alloc (.cells #[.int .u32 (h.s : Int), .int .u32 (h.d : Int), .int .u16 (h.p : Int), .int .u16 (h.q : Int), .int .u8 (h.r : Int)] 25)).cell? ⟨w.heap.size, 2, none⟩ = some (.int .u16 (h.p : Int)) from by simp [go_sem])
    have h3_1 : w1.cell? ⟨w.heap.size, 3, none⟩ = some (.int .u16 (h.q : Int)) := cell_on hb1 (show (w.alloc (.cells #[.int .u32 (h.s : Int), .int .u32 (h.d : Int), .int .u16 (h.p : Int), .int .u16 (h.q : Int), .int .u8 (h.r : Int)] 25)).cell? ⟨w.heap.size, 3, none⟩ = some (.int .u16 (h.q : Int)) from by simp [go_sem])
    have h4_1 : w1.cell? ⟨w.heap.size, 4, none⟩ = some (.int .u8 (h.r : Int)) := cell_on hb1 (show (w.alloc (.cells #[.int .u32 (h.s : Int), .int .u32 (h.d : Int), .int .u16 (h.p : Int), .int .u16 (h.q : Int), .int .u8 (h.r : Int)] 25)).cell? ⟨w.heap.size, 4, none⟩ = some (.int .u8 (h.r : Int)) from by simp [go_sem])
    have hg1_0 : w.heap.size < w1.heap.size := by omega
    have hl1 : w.heap.size ≤ w1.heap.size := by omega
    have hw1 : Hid (Below w.heap.size w w1) := ((Below.refl _ _).alloc (by first | omega | (simp; done) | (simp; omega)) _).trans (hb1.mono (by first | omega | (simp; done) | (simp; omega)))
    clear hb1
    go_wp2_with (fail)
    refine (k2 _).mono ?_
    rintro e w2 ⟨rfl, hb2⟩
    have hz2 := hb2.size
    (try simp at hz2)
    have h0_2 : w2.cell? ⟨w.heap.size, 0, none⟩ = some (.int .u32 (h.s : Int)) := cell_on hb2 h0_1
    have h1_2 : w2.cell? ⟨w.heap.size, 1, none⟩ = some (.int .u32 (h.d : Int)) := cell_on hb2 h1_1
    have h2_2 : w2.cell? ⟨w.heap.size, 2, none⟩ = some (.int .u16 (h.p : Int)) := cell_on hb2 h2_1
    have h3_2 : w2.cell? ⟨w.heap.size, 3, none⟩ = some (.int .u16 (h.q : Int)) := cell_on hb2 h3_1
    have h4_2 : w2.cell? ⟨w.heap.size, 4, none⟩ = some (.int .u8 (h.r : Int)) := cell_on hb2 h4_1
    have hg2_0 : w.heap.size < w2.heap.size := by omega
    have hl2 : w.heap.size ≤ w2.heap.size := by omega
    have hw2 : Hid (Below w.heap.size w w2) := hw1.out.trans (hb2.mono (by first | omega | (simp; done) | (simp; omega)))
    clear hb2 h0_1 h1_1 h2_1 h3_1 h4_1 hg1_0 hw1
    go_wp2_with (fail)
    refine (k3 _).mono ?_
    rintro e w3 ⟨rfl, hb3⟩
    have hz3 := hb3.size
    (try simp at hz3)
    have h0_3 : w3.cell? ⟨w.heap.size, 0, none⟩ = some (.int .u32 (h.s : Int)) := cell_on hb3 h0_2
    have h1_3 : w3.cell? ⟨w.heap.size, 1, none⟩ = some (.int .u32 (h.d : Int)) := cell_on hb3 h1_2
    have h2_3 : w3.cell? ⟨w.heap.size, 2, none⟩ = some (.int .u16 (h.p : Int)) := cell_on hb3 h2_2
    have h3_3 : w3.cell? ⟨w.heap.size, 3, none⟩ = some (.int .u16 (h.q : Int)) := cell_on hb3 h3_2
    have h4_3 : w3.cell? ⟨w.heap.size, 4, none⟩ = some (.int .u8 (h.r : Int)) := cell_on hb3 h4_2
    have hg3_0 : w.heap.size < w3.heap.size := by omega
    have hl3 : w.heap.size ≤ w3.heap.size := by omega
    have hw3 : Hid (Below w.heap.size w w3) := hw2.out.trans (hb3.mono (by first | omega | (simp; done) | (simp; omega)))
    clear hb3 h0_2 h1_2 h2_2 h3_2 h4_2 hg2_0 hw2
    go_wp2_with (fail)
    refine (k4 _).mono ?_
    rintro e w4 ⟨rfl, hb4⟩
    have hz4 := hb4.size
    (try simp at hz4)
    have h0_4 : w4.cell? ⟨w.heap.size, 0, none⟩ = some (.int .u32 (h.s : Int)) := cell_on hb4 (cell_alloc h0_3)
    have h1_4 : w4.cell? ⟨w.heap.size, 1, none⟩ = some (.int .u32 (h.d : Int)) := cell_on hb4 (cell_alloc h1_3)
    have h2_4 : w4.cell? ⟨w.heap.size, 2, none⟩ = some (.int .u16 (h.p : Int)) := cell_on hb4 (cell_alloc h2_3)
    have h3_4 : w4.cell? ⟨w.heap.size, 3, none⟩ = some (.int .u16 (h.q : Int)) := cell_on hb4 (cell_alloc h3_3)
    have h4_4 : w4.cell? ⟨w.heap.size, 4, none⟩ = some (.int .u8 (h.r : Int)) := cell_on hb4 (cell_alloc h4_3)
    have x0_4 : w4.cell? ⟨w3.heap.size, 0, none⟩ = some (.int .u32 (y.s : Int)) := cell_on hb4 (show (w3.alloc (.cells #[.int .u32 (y.s : Int), .int .u32 (y.d : Int), .int .u16 (y.p : Int), .int .u16 (y.q : Int), .int .u8 (y.r : Int)] 25)).cell? ⟨w3.heap.size, 0, none⟩ = some (.int .u32 (y.s : Int)) from by simp [go_sem])
    have x1_4 : w4.cell? ⟨w3.heap.size, 1, none⟩ = some (.int .u32 (y.d : Int)) := cell_on hb4 (show (w3.alloc (.cells #[.int .u32 (y.s : Int), .int .u32 (y.d : Int), .int .u16 (y.p : Int), .int .u16 (y.q : Int), .int .u8 (y.r : Int)] 25)).cell? ⟨w3.heap.size, 1, none⟩ = some (.int .u32 (y.d : Int)) from by simp [go_sem])
    have x2_4 : w4.cell? ⟨w3.heap.size, 2, none⟩ = some (.int .u16 (y.p : Int)) := cell_on hb4 (show (w3.alloc (.cells #[.int .u32 (y.s : Int), .int .u32 (y.d : Int), .int .u16 (y.p : Int), .int .u16 (y.q : Int), .int .u8 (y.r : Int)] 25)).cell? ⟨w3.heap.size, 2, none⟩ = some (.int .u16 (y.p : Int)) from by simp [go_sem])
    have x3_4 : w4.cell? ⟨w3.heap.size, 3, none⟩ = some (.int .u16 (y.q : Int)) := cell_on hb4 (show (w3.alloc (.cells #[.int .u32 (y.s : Int), .int .u32 (y.d : Int), .int .u16 (y.p : Int), .int .u16 (y.q : Int), .int .u8 (y.r : Int)] 25)).cell? ⟨w3.heap.size, 3, none⟩ = some (.int .u16 (y.q : Int)) from by simp [go_sem])
    have x4_4 : w4.cell? ⟨w3.heap.size, 4, none⟩ = some (.int .u8 (y.r : Int)) := cell_on hb4 (show (w3.alloc (.cells #[.int .u32 (y.s : Int), .int .u32 (y.d : Int), .int .u16 (y.p : Int), .int .u16 (y.q : Int), .int .u8 (y.r : Int)] 25)).cell? ⟨w3.heap.size, 4, none⟩ = some (.int .u8 (y.r : Int)) from by simp [go_sem])
    have hg4_0 : w.heap.size < w4.heap.size := by omega
    have hg4_1 : w3.heap.size < w4.heap.size := by omega
    have hl4 : w.heap.size ≤ w4.heap.size := by omega
    have hw4 : Hid (Below w.heap.size w w4) := (hw3.out.alloc (by first | omega | (simp; done) | (simp; omega)) _).trans (hb4.mono (by first | omega | (simp; done) | (simp; omega)))
    clear hb4 h0_3 h1_3 h2_3 h3_3 h4_3 hg3_0 hw3
    go_wp2_with (fail)
    refine (hA _).mono ?_
    rintro e w5 ⟨rfl, hb5⟩
    have hz5 := hb5.size
    (try simp at hz5)
    have h0_5 : w5.cell? ⟨w.heap.size, 0, none⟩ = some (.int .u32 (h.s : Int)) := cell_on hb5 (cell_alloc h0_4)
    have h1_5 : w5.cell? ⟨w.heap.size, 1, none⟩ = some (.int .u32 (h.d : Int)) := cell_on hb5 (cell_alloc h1_4)
    have h2_5 : w5.cell? ⟨w.heap.size, 2, none⟩ = some (.int .u16 (h.p : Int)) := cell_on hb5 (cell_alloc h2_4)
    have h3_5 : w5.cell? ⟨w.heap.size, 3, none⟩ = some (.int .u16 (h.q : Int)) := cell_on hb5 (cell_alloc h3_4)
    have h4_5 : w5.cell? ⟨w.heap.size, 4, none⟩ = some (.int .u8 (h.r : Int)) := cell_on hb5 (cell_alloc h4_4)
    have x0_5 : w5.cell? ⟨w3.heap.size, 0, none⟩ = some (.int .u32 (y.s : Int)) := cell_on hb5 (cell_alloc x0_4)
    have x1_5 : w5.cell? ⟨w3.heap.size, 1, none⟩ = some (.int .u32 (y.d : Int)) := cell_on hb5 (cell_alloc x1_4)
    have x2_5 : w5.cell? ⟨w3.heap.size, 2, none⟩ = some (.int .u16 (y.p : Int)) := cell_on hb5 (cell_alloc x2_4)
    have x3_5 : w5.cell? ⟨w3.heap.size, 3, none⟩ = some (.int .u16 (y.q : Int)) := cell_on hb5 (cell_alloc x3_4)
    have x4_5 : w5.cell? ⟨w3.heap.size, 4, none⟩ = some (.int .u8 (y.r : Int)) := cell_on hb5 (cell_alloc x4_4)
    have y0_5 : w5.cell? ⟨w4.heap.size, 0, none⟩ = some (.int .u32 (y.s : Int)) := cell_on hb5 (show (w4.alloc (.cells #[.int .u32 (y.s : Int), .int .u32 (y.d : Int), .int .u16 (y.p : Int), .int .u16 (y.q : Int), .int .u8 (y.r : Int)] 25)).cell? ⟨w4.heap.size, 0, none⟩ = some (.int .u32 (y.s : Int)) from by simp [go_sem])
    have y1_5 : w5.cell? ⟨w4.heap.size, 1, none⟩ = some (.int .u32 (y.d : Int)) := cell_on hb5 (show (w4.alloc (.cells #[.int .u32 (y.s : Int), .int .u32 (y.d : Int), .int .u16 (y.p : Int), .int .u16 (y.q : Int), .int .u8 (y.r : Int)] 25)).cell? ⟨w4.heap.size, 1, none⟩ = some (.int .u32 (y.d : Int)) from by simp [go_sem])
    have y2_5 : w5.cell? ⟨w4.heap.size, 2, none⟩ = some (.int .u16 (y.p : Int)) := cell_on hb5 (show (w4.alloc (.cells #[.int .u32 (y.s : Int), .int .u32 (y.d : Int), .int .u16 (y.p : Int), .int .u16 (y.q : Int), .int .u8 (y.r : Int)] 25)).cell? ⟨w4.heap.size, 2, none⟩ = some (.int .u16 (y.p : Int)) from by simp [go_sem])
    have y3_5 : w5.cell? ⟨w4.heap.size, 3, none⟩ = some (.int .u16 (y.q : Int)) := cell_on hb5 (show (w4.alloc (.cells #[.int .u32 (y.s : Int), .int .u32 (y.d : Int), .int .u16 (y.p : Int), .int .u16 (y.q : Int), .int .u8 (y.r : Int)] 25)).cell? ⟨w4.heap.size, 3, none⟩ = some (.int .u16 (y.q : Int)) from by simp [go_sem])
    have y4_5 : w5.cell? ⟨w4.heap.size, 4, none⟩ = some (.int .u8 (y.r : Int)) := cell_on hb5 (show (w4.alloc (.cells #[.int .u32 (y.s : Int), .int .u32 (y.d : Int), .int .u16 (y.p : Int), .int .u16 (y.q : Int), .int .u8 (y.r : Int)] 25)).cell? ⟨w4.heap.size, 4, none⟩ = some (.int .u8 (y.r : Int)) from by simp [go_sem])
    have hg5_0 : w.heap.size < w5.heap.size := by omega
    have hg5_1 : w3.heap.size < w5.heap.size := by omega
    have hg5_2 : w4.heap.size < w5.heap.size := by omega
    have hl5 : w.heap.size ≤ w5.heap.size := by omega
    have hw5 : Hid (Below w.heap.size w w5) := (hw4.out.alloc (by first | omega | (simp; done) | (simp; omega)) _).trans (hb5.mono (by first | omega | (simp; done) | (simp; omega)))
    clear hb5 h0_4 h1_4 h2_4 h3_4 h4_4 x0_4 x1_4 x2_4 x3_4 x4_4 hg4_0 hg4_1 hw4
    go_wp2
    go_ret
    exact ⟨rfl, hw5.out⟩
end Go.Proofs.Ytpgadbiohmofeaa
