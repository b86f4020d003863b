/-
  HeaderNexts, out of what the functions of header hand back.
-/
import Derived.Test.YtpgadbiohmofeaaHdAw
namespace Go.Proofs.Ytpgadbiohmofeaa
open Go.RowKit
set_option linter.unusedVariables false
set_option linter.unusedSimpArgs false

theorem headerNexts_core (hN0 : NxtC) (hA : ∀ w : World, Calls Try.prog 9 #[] w fun e w' => e = .returned (.bool true) ∧ Below w.heap.size w w') (h : Hd) (o : OkH h) (w : World) :
    Calls Try.prog 6 #[.agg #[.int .u32 (h.s : Int), .int .u32 (h.d : Int), .int .u16 (h.p : Int), .int .u16 (h.q : Int), .int .u8 (h.r : Int)]] w fun e w' => e = .returned (.bool true) ∧ Below w.heap.size w w' := by
  have hN := fun W => hN0 h W o
  have rN := fun W => rNextT h W o
  generalize nxt h = nx at *
  generalize hasN h = b at *
  go_enter Try.func6, Try.ntmps6
  go_wp2_with (fail)
  refine (hN _).mono ?_
  rintro e w1 ⟨rfl, hb1⟩
  have hz1 := hb1.size
  (try simp at hz1)
  have h0_1 : w1.cell? ⟨w.heap.size, 0, none⟩ = some (.int .u32 (h.s : Int)) := cell_on hb1 (show (w.alloc (.cells #[.int .u32 (h.s : Int), .int .u32 (h.d : Int), .int .u16 (h.p : Int), .int .u16 (h.q : Int), .int .u8 (h.r : Int)] 25)).cell? ⟨w.heap.size, 0, none⟩ = some (.int .u32 (h.s : Int)) from by simp [go_sem])
  have h1_1 : w1.cell? ⟨w.heap.size, 1, none⟩ = some (.int .u32 (h.d : Int)) := cell_on hb1 (show (w.alloc (.cells #[.int .u32 (h.s : Int), .int .u32 (h.d : Int), .int .u16 (h.p : Int), .int .u16 (h.q : Int), .int .u8 (h.r : Int)] 25)).cell? ⟨w.heap.size, 1, none⟩ = some (.int .u32 (h.d : Int)) from by simp [go_sem])
  have h2_1 : w1.cell? ⟨w.heap.size, 2, none⟩ = some (.int .u16 (h.p : Int)) := cell_on hb1 (show (w.alloc (.cells #[.int .u32 (h.s : Int), .int .u32 (h.d : Int), .int .u16 (h.p : Int), .int .u16 (h.q : Int), .int .u8 (h.r : Int)] 25)).cell? ⟨w.heap.size, 2, none⟩ = some (.int .u16 (h.p : Int)) from by simp [go_sem])
  have h3_1 : w1.cell? ⟨w.heap.size, 3, none⟩ = some (.int .u16 (h.q : Int)) := cell_on hb1 (show (w.alloc (.cells #[.int .u32 (h.s : Int), .int .u32 (h.d : Int), .int .u16 (h.p : Int), .int .u16 (h.q : Int), .int .u8 (h.r : Int)] 25)).cell? ⟨w.heap.size, 3, none⟩ = some (.int .u16 (h.q : Int)) from by simp [go_sem])
  have h4_1 : w1.cell? ⟨w.heap.size, 4, none⟩ = some (.int .u8 (h.r : Int)) := cell_on hb1 (show (w.alloc (.cells #[.int .u32 (h.s : Int), .int .u32 (h.d : Int), .int .u16 (h.p : Int), .int .u16 (h.q : Int), .int .u8 (h.r : Int)] 25)).cell? ⟨w.heap.size, 4, none⟩ = some (.int .u8 (h.r : Int)) from by simp [go_sem])
  have hg1_0 : w.heap.size < w1.heap.size := by omega
  have hl1 : w.heap.size ≤ w1.heap.size := by omega
  have hw1 : Hid (Below w.heap.size w w1) := ((Below.refl _ _).alloc (by first | omega | (simp; done) | (simp; omega)) _).trans (hb1.mono (by first | omega | (simp; done) | (simp; omega)))
  clear hb1
  go_wp2_with (fail)
  refine (rN _).mono ?_
  rintro e w2 ⟨rfl, hb2⟩
  have hz2 := hb2.size
  (try simp at hz2)
  have h0_2 : w2.cell? ⟨w.heap.size, 0, none⟩ = some (.int .u32 (h.s : Int)) := cell_on hb2 (cell_alloc h0_1)
  have h1_2 : w2.cell? ⟨w.heap.size, 1, none⟩ = some (.int .u32 (h.d : Int)) := cell_on hb2 (cell_alloc h1_1)
  have h2_2 : w2.cell? ⟨w.heap.size, 2, none⟩ = some (.int .u16 (h.p : Int)) := cell_on hb2 (cell_alloc h2_1)
  have h3_2 : w2.cell? ⟨w.heap.size, 3, none⟩ = some (.int .u16 (h.q : Int)) := cell_on hb2 (cell_alloc h3_1)
  have h4_2 : w2.cell? ⟨w.heap.size, 4, none⟩ = some (.int .u8 (h.r : Int)) := cell_on hb2 (cell_alloc h4_1)
  have n0_2 : w2.cell? ⟨w1.heap.size, 0, none⟩ = some (.int .u32 (nx.s : Int)) := cell_on hb2 (show (w1.alloc (.cells #[.int .u32 (nx.s : Int), .int .u32 (nx.d : Int), .int .u16 (nx.p : Int), .int .u16 (nx.q : Int), .int .u8 (nx.r : Int)] 25)).cell? ⟨w1.heap.size, 0, none⟩ = some (.int .u32 (nx.s : Int)) from by simp [go_sem])
  have n1_2 : w2.cell? ⟨w1.heap.size, 1, none⟩ = some (.int .u32 (nx.d : Int)) := cell_on hb2 (show (w1.alloc (.cells #[.int .u32 (nx.s : Int), .int .u32 (nx.d : Int), .int .u16 (nx.p : Int), .int .u16 (nx.q : Int), .int .u8 (nx.r : Int)] 25)).cell? ⟨w1.heap.size, 1, none⟩ = some (.int .u32 (nx.d : Int)) from by simp [go_sem])
  have n2_2 : w2.cell? ⟨w1.heap.size, 2, none⟩ = some (.int .u16 (nx.p : Int)) := cell_on hb2 (show (w1.alloc (.cells #[.int .u32 (nx.s : Int), .int .u32 (nx.d : Int), .int .u16 (nx.p : Int), .int .u16 (nx.q : Int), .int .u8 (nx.r : Int)] 25)).cell? ⟨w1.heap.size, 2, none⟩ = some (.int .u16 (nx.p : Int)) from by simp [go_sem])
  have n3_2 : w2.cell? ⟨w1.heap.size, 3, none⟩ = some (.int .u16 (nx.q : Int)) := cell_on hb2 (show (w1.alloc (.cells #[.int .u32 (nx.s : Int), .int .u32 (nx.d : Int), .int .u16 (nx.p : Int), .int .u16 (nx.q : Int), .int .u8 (nx.r : Int)] 25)).cell? ⟨w1.heap.size, 3, none⟩ = some (.int .u16 (nx.q : Int)) from by simp [go_sem])
  have n4_2 : w2.cell? ⟨w1.heap.size, 4, none⟩ = some (.int .u8 (nx.r : Int)) := cell_on hb2 (show (w1.alloc (.cells #[.int .u32 (nx.s : Int), .int .u32 (nx.d : Int), .int .u16 (nx.p : Int), .int .u16 (nx.q : Int), .int .u8 (nx.r : Int)] 25)).cell? ⟨w1.heap.size, 4, none⟩ = some (.int .u8 (nx.r : Int)) from by simp [go_sem])
  have hg2_0 : w.heap.size < w2.heap.size := by omega
  have hg2_1 : w1.heap.size < w2.heap.size := by omega
  have hl2 : w.heap.size ≤ w2.heap.size := by omega
  have hw2 : Hid (Below w.heap.size w w2) := (hw1.out.alloc (by first | omega | (simp; done) | (simp; omega)) _).trans (hb2.mono (by first | omega | (simp; done) | (simp; omega)))
  clear hb2 h0_1 h1_1 h2_1 h3_1 h4_1 hg1_0 hw1
  go_wp2_with (fail)
  refine (hA _).mono ?_
  rintro e w3 ⟨rfl, hb3⟩
  have hz3 := hb3.size
  (try simp at hz3)
  have h0_3 : w3.cell? ⟨w.heap.size, 0, none⟩ = some (.int .u32 (h.s : Int)) := cell_on hb3 (cell_alloc h0_2)
  have h1_3 : w3.cell? ⟨w.heap.size, 1, none⟩ = some (.int .u32 (h.d : Int)) := cell_on hb3 (cell_alloc h1_2)
  have h2_3 : w3.cell? ⟨w.heap.size, 2, none⟩ = some (.int .u16 (h.p : Int)) := cell_on hb3 (cell_alloc h2_2)
  have h3_3 : w3.cell? ⟨w.heap.size, 3, none⟩ = some (.int .u16 (h.q : Int)) := cell_on hb3 (cell_alloc h3_2)
  have h4_3 : w3.cell? ⟨w.heap.size, 4, none⟩ = some (.int .u8 (h.r : Int)) := cell_on hb3 (cell_alloc h4_2)
  have n0_3 : w3.cell? ⟨w1.heap.size, 0, none⟩ = some (.int .u32 (nx.s : Int)) := cell_on hb3 (cell_alloc n0_2)
  have n1_3 : w3.cell? ⟨w1.heap.size, 1, none⟩ = some (.int .u32 (nx.d : Int)) := cell_on hb3 (cell_alloc n1_2)
  have n2_3 : w3.cell? ⟨w1.heap.size, 2, none⟩ = some (.int .u16 (nx.p : Int)) := cell_on hb3 (cell_alloc n2_2)
  have n3_3 : w3.cell? ⟨w1.heap.size, 3, none⟩ = some (.int .u16 (nx.q : Int)) := cell_on hb3 (cell_alloc n3_2)
  have n4_3 : w3.cell? ⟨w1.heap.size, 4, none⟩ = some (.int .u8 (nx.r : Int)) := cell_on hb3 (cell_alloc n4_2)
  have m0_3 : w3.cell? ⟨w2.heap.size, 0, none⟩ = some (.int .u32 (nx.s : Int)) := cell_on hb3 (show (w2.alloc (.cells #[.int .u32 (nx.s : Int), .int .u32 (nx.d : Int), .int .u16 (nx.p : Int), .int .u16 (nx.q : Int), .int .u8 (nx.r : Int)] 25)).cell? ⟨w2.heap.size, 0, none⟩ = some (.int .u32 (nx.s : Int)) from by simp [go_sem])
  have m1_3 : w3.cell? ⟨w2.heap.size, 1, none⟩ = some (.int .u32 (nx.d : Int)) := cell_on hb3 (show (w2.alloc (.cells #[.int .u32 (nx.s : Int), .int .u32 (nx.d : Int), .int .u16 (nx.p : Int), .int .u16 (nx.q : Int), .int .u8 (nx.r : Int)] 25)).cell? ⟨w2.heap.size, 1, none⟩ = some (.int .u32 (nx.d : Int)) from by simp [go_sem])
  have m2_3 : w3.cell? ⟨w2.heap.size, 2, none⟩ = some (.int .u16 (nx.p : Int)) := cell_on hb3 (show (w2.alloc (.cells #[.int .u32 (nx.s : Int), .int .u32 (nx.d : Int), .int .u16 (nx.p : Int), .int .u16 (nx.q : Int), .int .u8 (nx.r : Int)] 25)).cell? ⟨w2.heap.size, 2, none⟩ = some (.int .u16 (nx.p : Int)) from by simp [go_sem])
  have m3_3 : w3.cell? ⟨w2.heap.size, 3, none⟩ = some (.int .u16 (nx.q : Int)) := cell_on hb3 (show (w2.alloc (.cells #[.int .u32 (nx.s : Int), .int .u32 (nx.d : Int), .int .u16 (nx.p : Int), .int .u16 (nx.q : Int), .int .u8 (nx.r : Int)] 25)).cell? ⟨w2.heap.size, 3, none⟩ = some (.int .u16 (nx.q : Int)) from by simp [go_sem])
  have m4_3 : w3.cell? ⟨w2.heap.size, 4, none⟩ = some (.int .u8 (nx.r : Int)) := cell_on hb3 (show (w2.alloc (.cells #[.int .u32 (nx.s : Int), .int .u32 (nx.d : Int), .int .u16 (nx.p : Int), .int .u16 (nx.q : Int), .int .u8 (nx.r : Int)] 25)).cell? ⟨w2.heap.size, 4, none⟩ = some (.int .u8 (nx.r : Int)) from by simp [go_sem])
  have hg3_0 : w.heap.size < w3.heap.size := by omega
  have hg3_1 : w1.heap.size < w3.heap.size := by omega
  have hg3_2 : w2.heap.size < w3.heap.size := by omega
  have hl3 : w.heap.size ≤ w3.heap.size := by omega
  have hw3 : Hid (Below w.heap.size w w3) := (hw2.out.alloc (by first | omega | (simp; done) | (simp; omega)) _).trans (hb3.mono (by first | omega | (simp; done) | (simp; omega)))
  clear hb3 h0_2 h1_2 h2_2 h3_2 h4_2 n0_2 n1_2 n2_2 n3_2 n4_2 hg2_0 hg2_1 hw2
  go_wp2
  go_ret
  exact ⟨rfl, hw3.out⟩
end Go.Proofs.Ytpgadbiohmofeaa
