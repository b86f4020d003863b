/-
  HeaderSteps, out of what the functions of header hand back. Written by tools/mkHdLs.py.
-/
import Derived.Test.YtpgadbiohmofeabHdAw
import Derived.Test.YtpgadbiohmofeabHdPlS
namespace Go.Proofs.Ytpgadbiohmofeab
open Go.RowKit
set_option linter.unusedVariables false
set_option linter.unusedSimpArgs false

set_option maxRecDepth 20000 in
set_option maxHeartbeats 4000000 in
theorem headerSteps_core (hN : NxtC) (hB : BitC) (hC : CmpC) (hA : ∀ w : World, Calls Try.prog 8 #[] w fun e w' => e = .returned (.bool true) ∧ Below w.heap.size w w') (h x : Hd) (o : OkH h) (ox : OkH x) (w : World) :
    Calls Try.prog 4 #[.agg #[.int .u32 (h.s : Int), .int .u32 (h.d : Int), .int .u16 (h.p : Int), .int .u16 (h.q : Int), .int .u8 (h.r : Int)], .agg #[.int .u32 (x.s : Int), .int .u32 (x.d : Int), .int .u16 (x.p : Int), .int .u16 (x.q : Int), .int .u8 (x.r : Int)]] w fun e w' => e = .returned (.bool true) ∧ Below w.heap.size w w' := by
  have kB := fun i W hi => hB h i W o hi
  have kN := fun W => hN h W o
  have hall := allB_all o
  cases hb : hasN h
  · have hn := nxt_no o hb
    rw [hb] at kN hall
    rw [hn.1] at kN
    have k1 : ∀ W, Calls Try.prog 11 #[.agg #[.int .u32 (h.s : Int), .int .u32 (h.d : Int), .int .u16 (h.p : Int), .int .u16 (h.q : Int), .int .u8 (h.r : Int)]] W fun e w' => e = .returned (.tuple #[.agg #[.int .u32 0, .int .u32 0, .int .u16 0, .int .u16 0, .int .u8 0], .bool false]) ∧ Below W.heap.size W w' := kN
    have c1 := fun W => hC x h W ox o
    have hq := step_last (x := x) o ox hb
    generalize cmpH x h = q at *
    clear kN hn hN hB hC hb
    go_enter Try.func4, Try.ntmps4
    go_wp2_with (fail)
    refine (k1 _).mono ?_
    rintro e w1 ⟨rfl, hb1⟩
    have hz1 := hb1.size
    (try simp at hz1)
    have h0_1 : w1.cell? ⟨w.heap.size, 0, none⟩ = some (.int .u32 (h.s : Int)) := cell_on hb1 (show ((w.alloc (.cells #[.int .u32 (h.s : Int), .int .u32 (h.d : Int), .int .u16 (h.p : Int), .int .u16 (h.q : Int), .int .u8 (h.r : Int)] 25)).alloc (.cells #[.int .u32 (x.s : Int), .int .u32 (x.d : Int), .int .u16 (x.p : Int), .int .u16 (x.q : Int), .int .u8 (x.r : Int)] 25)).cell? ⟨w.heap.size, 0, none⟩ = some (.int .u32 (h.s : Int)) from by simp [go_sem])
    have h1_1 : w1.cell? ⟨w.heap.size, 1, none⟩ = some (.int .u32 (h.d : Int)) := cell_on hb1 (show ((w.alloc (.cells #[.int .u32 (h.s : Int), .int .u32 (h.d : Int), .int .u16 (h.p : Int), .int .u16 (h.q : Int), .int .u8 (h.r : Int)] 25)).alloc (.cells #[.int .u32 (x.s : Int), .int .u32 (x.d : Int), .int .u16 (x.p : Int), .int .u16 (x.q : Int), .int .u8 (x.r : Int)] 25)).cell? ⟨w.heap.size, 1, none⟩ = some (.int .u32 (h.d : Int)) from by simp [go_sem])
    have h2_1 : w1.cell? ⟨w.heap.size, 2, none⟩ = some (.int .u16 (h.p : Int)) := cell_on hb1 (show ((w.alloc (.cells #[.int .u32 (h.s : Int), .int .u32 (h.d : Int), .int .u16 (h.p : Int), .int .u16 (h.q : Int), .int .u8 (h.r : Int)] 25)).alloc (.cells #[.int .u32 (x.s : Int), .int .u32 (x.d : Int), .int .u16 (x.p : Int), .int .u16 (x.q : Int), .int .u8 (x.r : Int)] 25)).cell? ⟨w.heap.size, 2, none⟩ = some (.int .u16 (h.p : Int)) from by simp [go_sem])
    have h3_1 : w1.cell? ⟨w.heap.size, 3, none⟩ = some (.int .u16 (h.q : Int)) := cell_on hb1 (show ((w.alloc (.cells #[.int .u32 (h.s : Int), .int .u32 (h.d : Int), .int .u16 (h.p : Int), .int .u16 (h.q : Int), .int .u8 (h.r : Int)] 25)).alloc (.cells #[.int .u32 (x.s : Int), .int .u32 (x.d : Int), .int .u16 (x.p : Int), .int .u16 (x.q : Int), .int .u8 (x.r : Int)] 25)).cell? ⟨w.heap.size, 3, none⟩ = some (.int .u16 (h.q : Int)) from by simp [go_sem])
    have h4_1 : w1.cell? ⟨w.heap.size, 4, none⟩ = some (.int .u8 (h.r : Int)) := cell_on hb1 (show ((w.alloc (.cells #[.int .u32 (h.s : Int), .int .u32 (h.d : Int), .int .u16 (h.p : Int), .int .u16 (h.q : Int), .int .u8 (h.r : Int)] 25)).alloc (.cells #[.int .u32 (x.s : Int), .int .u32 (x.d : Int), .int .u16 (x.p : Int), .int .u16 (x.q : Int), .int .u8 (x.r : Int)] 25)).cell? ⟨w.heap.size, 4, none⟩ = some (.int .u8 (h.r : Int)) from by simp [go_sem])
    have x0_1 : w1.cell? ⟨w.heap.size + 1, 0, none⟩ = some (.int .u32 (x.s : Int)) := cell_on hb1 (show ((w.alloc (.cells #[.int .u32 (h.s : Int), .int .u32 (h.d : Int), .int .u16 (h.p : Int), .int .u16 (h.q : Int), .int .u8 (h.r : Int)] 25)).alloc (.cells #[.int .u32 (x.s : Int), .int .u32 (x.d : Int), .int .u16 (x.p : Int), .int .u16 (x.q : Int), .int .u8 (x.r : Int)] 25)).cell? ⟨w.heap.size + 1, 0, none⟩ = some (.int .u32 (x.s : Int)) from by simp [go_sem])
    have x1_1 : w1.cell? ⟨w.heap.size + 1, 1, none⟩ = some (.int .u32 (x.d : Int)) := cell_on hb1 (show ((w.alloc (.cells #[.int .u32 (h.s : Int), .int .u32 (h.d : Int), .int .u16 (h.p : Int), .int .u16 (h.q : Int), .int .u8 (h.r : Int)] 25)).alloc (.cells #[.int .u32 (x.s : Int), .int .u32 (x.d : Int), .int .u16 (x.p : Int), .int .u16 (x.q : Int), .int .u8 (x.r : Int)] 25)).cell? ⟨w.heap.size + 1, 1, none⟩ = some (.int .u32 (x.d : Int)) from by simp [go_sem])
    have x2_1 : w1.cell? ⟨w.heap.size + 1, 2, none⟩ = some (.int .u16 (x.p : Int)) := cell_on hb1 (show ((w.alloc (.cells #[.int .u32 (h.s : Int), .int .u32 (h.d : Int), .int .u16 (h.p : Int), .int .u16 (h.q : Int), .int .u8 (h.r : Int)] 25)).alloc (.cells #[.int .u32 (x.s : Int), .int .u32 (x.d : Int), .int .u16 (x.p : Int), .int .u16 (x.q : Int), .int .u8 (x.r : Int)] 25)).cell? ⟨w.heap.size + 1, 2, none⟩ = some (.int .u16 (x.p : Int)) from by simp [go_sem])
    have x3_1 : w1.cell? ⟨w.heap.size + 1, 3, none⟩ = some (.int .u16 (x.q : Int)) := cell_on hb1 (show ((w.alloc (.cells #[.int .u32 (h.s : Int), .int .u32 (h.d : Int), .int .u16 (h.p : Int), .int .u16 (h.q : Int), .int .u8 (h.r : Int)] 25)).alloc (.cells #[.int .u32 (x.s : Int), .int .u32 (x.d : Int), .int .u16 (x.p : Int), .int .u16 (x.q : Int), .int .u8 (x.r : Int)] 25)).cell? ⟨w.heap.size + 1, 3, none⟩ = some (.int .u16 (x.q : Int)) from by simp [go_sem])
    have x4_1 : w1.cell? ⟨w.heap.size + 1, 4, none⟩ = some (.int .u8 (x.r : Int)) := cell_on hb1 (show ((w.alloc (.cells #[.int .u32 (h.s : Int), .int .u32 (h.d : Int), .int .u16 (h.p : Int), .int .u16 (h.q : Int), .int .u8 (h.r : Int)] 25)).alloc (.cells #[.int .u32 (x.s : Int), .int .u32 (x.d : Int), .int .u16 (x.p : Int), .int .u16 (x.q : Int), .int .u8 (x.r : Int)] 25)).cell? ⟨w.heap.size + 1, 4, none⟩ = some (.int .u8 (x.r : Int)) from by simp [go_sem])
    have hg1_0 : w.heap.size < w1.heap.size := by omega
    have hg1_1 : w.heap.size + 1 < w1.heap.size := by omega
    have hl1 : w.heap.size ≤ w1.heap.size := by omega
    have hw1 : Hid (Below w.heap.size w w1) := (((Below.refl _ _).alloc (by first | omega | (simp; done) | (simp; omega)) _).alloc (by first | omega | (simp; done) | (simp; omega)) _).trans (hb1.mono (by first | omega | (simp; done) | (simp; omega)))
    clear hb1
    go_wp2_with (fail)
    obtain ⟨W, hW⟩ : ∃ W, W = (w1.alloc (.cells #[.int .u32 0, .int .u32 0, .int .u16 0, .int .u16 0, .int .u8 0] 25)) := ⟨_, rfl⟩
    have h0_W : W.cell? ⟨w.heap.size, 0, none⟩ = some (.int .u32 (h.s : Int)) := by rw [hW]; exact (cell_alloc h0_1)
    have h1_W : W.cell? ⟨w.heap.size, 1, none⟩ = some (.int .u32 (h.d : Int)) := by rw [hW]; exact (cell_alloc h1_1)
    have h2_W : W.cell? ⟨w.heap.size, 2, none⟩ = some (.int .u16 (h.p : Int)) := by rw [hW]; exact (cell_alloc h2_1)
    have h3_W : W.cell? ⟨w.heap.size, 3, none⟩ = some (.int .u16 (h.q : Int)) := by rw [hW]; exact (cell_alloc h3_1)
    have h4_W : W.cell? ⟨w.heap.size, 4, none⟩ = some (.int .u8 (h.r : Int)) := by rw [hW]; exact (cell_alloc h4_1)
    have x0_W : W.cell? ⟨w.heap.size + 1, 0, none⟩ = some (.int .u32 (x.s : Int)) := by rw [hW]; exact (cell_alloc x0_1)
    have x1_W : W.cell? ⟨w.heap.size + 1, 1, none⟩ = some (.int .u32 (x.d : Int)) := by rw [hW]; exact (cell_alloc x1_1)
    have x2_W : W.cell? ⟨w.heap.size + 1, 2, none⟩ = some (.int .u16 (x.p : Int)) := by rw [hW]; exact (cell_alloc x2_1)
    have x3_W : W.cell? ⟨w.heap.size + 1, 3, none⟩ = some (.int .u16 (x.q : Int)) := by rw [hW]; exact (cell_alloc x3_1)
    have x4_W : W.cell? ⟨w.heap.size + 1, 4, none⟩ = some (.int .u8 (x.r : Int)) := by rw [hW]; exact (cell_alloc x4_1)
    have n0_W : W.cell? ⟨w1.heap.size, 0, none⟩ = some (.int .u32 0) := by rw [hW]; exact (show (w1.alloc (.cells #[.int .u32 0, .int .u32 0, .int .u16 0, .int .u16 0, .int .u8 0] 25)).cell? ⟨w1.heap.size, 0, none⟩ = some (.int .u32 0) from by simp [go_sem])
    have n1_W : W.cell? ⟨w1.heap.size, 1, none⟩ = some (.int .u32 0) := by rw [hW]; exact (show (w1.alloc (.cells #[.int .u32 0, .int .u32 0, .int .u16 0, .int .u16 0, .int .u8 0] 25)).cell? ⟨w1.heap.size, 1, none⟩ = some (.int .u32 0) from by simp [go_sem])
    have n2_W : W.cell? ⟨w1.heap.size, 2, none⟩ = some (.int .u16 0) := by rw [hW]; exact (show (w1.alloc (.cells #[.int .u32 0, .int .u32 0, .int .u16 0, .int .u16 0, .int .u8 0] 25)).cell? ⟨w1.heap.size, 2, none⟩ = some (.int .u16 0) from by simp [go_sem])
    have n3_W : W.cell? ⟨w1.heap.size, 3, none⟩ = some (.int .u16 0) := by rw [hW]; exact (show (w1.alloc (.cells #[.int .u32 0, .int .u32 0, .int .u16 0, .int .u16 0, .int .u8 0] 25)).cell? ⟨w1.heap.size, 3, none⟩ = some (.int .u16 0) from by simp [go_sem])
    have n4_W : W.cell? ⟨w1.heap.size, 4, none⟩ = some (.int .u8 0) := by rw [hW]; exact (show (w1.alloc (.cells #[.int .u32 0, .int .u32 0, .int .u16 0, .int .u16 0, .int .u8 0] 25)).cell? ⟨w1.heap.size, 4, none⟩ = some (.int .u8 0) from by simp [go_sem])
    have HWw : Hid (Below w.heap.size w W) := by rw [hW]; exact (hw1.out.alloc (by first | omega | (simp; done) | (simp; omega)) _)
    rw [← hW]
    clear hW hw1 h0_1 h1_1 h2_1 h3_1 h4_1 x0_1 x1_1 x2_1 x3_1 x4_1
    go_loopw [7, 8] (fun av iv wr => ∃ k : Nat, k ≤ 104 ∧ iv = .int .i64 (k : Int) ∧ av = .bool (allB h k) ∧ Hid (Below W.heap.size W wr)) (fun _ iv _ => 104 - (intOf iv).toNat)
    case atStart => exact ⟨0, by omega, rfl, rfl, Below.refl _ _⟩
    case round =>
      obtain ⟨k, hk, rfl, rfl, hbw⟩ := hrel
      have h0_r := cell_on1 hbw.out h0_W
      have h1_r := cell_on1 hbw.out h1_W
      have h2_r := cell_on1 hbw.out h2_W
      have h3_r := cell_on1 hbw.out h3_W
      have h4_r := cell_on1 hbw.out h4_W
      have x0_r := cell_on1 hbw.out x0_W
      have x1_r := cell_on1 hbw.out x1_W
      have x2_r := cell_on1 hbw.out x2_W
      have x3_r := cell_on1 hbw.out x3_W
      have x4_r := cell_on1 hbw.out x4_W
      have n0_r := cell_on1 hbw.out n0_W
      have n1_r := cell_on1 hbw.out n1_W
      have n2_r := cell_on1 hbw.out n2_W
      have n3_r := cell_on1 hbw.out n3_W
      have n4_r := cell_on1 hbw.out n4_W
      have hzr := hbw.out.size
      by_cases hlt : k < 104
      · have hlt' : (k : Int) < 104 := by omega
        have hb1 := fun W => kB k W hlt
        have HS : Hid (allB h (k + 1) = (allB h k && decide (bitH h k = 1))) := rfl
        have hz := bit_cases h k
        generalize allB h k = c at *
        generalize bitH h k = z at *
        rcases hz with rfl | rfl
        all_goals
          cases c
          all_goals
            go_wp2_with (fail)
            refine (hb1 _).mono ?_
            rintro e wb ⟨rfl, hbb⟩
            have HBB : Hid (Below W.heap.size W wb) := hbw.out.trans (hbb.mono hzr)
            clear hbb hbw
            go_wp2_with (fail)
            go_roundw
            case rel => exact ⟨k + 1, by omega, by go_num, by rw [HS.out]; rfl, HBB.out⟩
            case measure => simp [intOf]; omega
      · obtain rfl : k = 104 := by omega
        rw [hall]
        have hwr : Hid (Below w.heap.size w wr) := HWw.out.trans (hbw.out.mono HWw.out.size)
        have hlr : w.heap.size ≤ wr.heap.size := hwr.out.size
        clear hbw HWw h0_W h1_W h2_W h3_W h4_W x0_W x1_W x2_W x3_W x4_W n0_W n1_W n2_W n3_W n4_W
        have hgr_0 : w.heap.size < wr.heap.size := World.block_lt_of_cell? _ _ h0_r
        have hgr_1 : w.heap.size + 1 < wr.heap.size := World.block_lt_of_cell? _ _ x0_r
        have hgr_2 : w1.heap.size < wr.heap.size := World.block_lt_of_cell? _ _ n0_r
        go_wp2_with (fail)
        refine (hA _).mono ?_
        rintro e w41 ⟨rfl, hb41⟩
        have hz41 := hb41.size
        (try simp at hz41)
        have h0_41 : w41.cell? ⟨w.heap.size, 0, none⟩ = some (.int .u32 (h.s : Int)) := cell_on hb41 h0_r
        have h1_41 : w41.cell? ⟨w.heap.size, 1, none⟩ = some (.int .u32 (h.d : Int)) := cell_on hb41 h1_r
        have h2_41 : w41.cell? ⟨w.heap.size, 2, none⟩ = some (.int .u16 (h.p : Int)) := cell_on hb41 h2_r
        have h3_41 : w41.cell? ⟨w.heap.size, 3, none⟩ = some (.int .u16 (h.q : Int)) := cell_on hb41 h3_r
        have h4_41 : w41.cell? ⟨w.heap.size, 4, none⟩ = some (.int .u8 (h.r : Int)) := cell_on hb41 h4_r
        have x0_41 : w41.cell? ⟨w.heap.size + 1, 0, none⟩ = some (.int .u32 (x.s : Int)) := cell_on hb41 x0_r
        have x1_41 : w41.cell? ⟨w.heap.size + 1, 1, none⟩ = some (.int .u32 (x.d : Int)) := cell_on hb41 x1_r
        have x2_41 : w41.cell? ⟨w.heap.size + 1, 2, none⟩ = some (.int .u16 (x.p : Int)) := cell_on hb41 x2_r
        have x3_41 : w41.cell? ⟨w.heap.size + 1, 3, none⟩ = some (.int .u16 (x.q : Int)) := cell_on hb41 x3_r
        have x4_41 : w41.cell? ⟨w.heap.size + 1, 4, none⟩ = some (.int .u8 (x.r : Int)) := cell_on hb41 x4_r
        have n0_41 : w41.cell? ⟨w1.heap.size, 0, none⟩ = some (.int .u32 0) := cell_on hb41 n0_r
        have n1_41 : w41.cell? ⟨w1.heap.size, 1, none⟩ = some (.int .u32 0) := cell_on hb41 n1_r
        have n2_41 : w41.cell? ⟨w1.heap.size, 2, none⟩ = some (.int .u16 0) := cell_on hb41 n2_r
        have n3_41 : w41.cell? ⟨w1.heap.size, 3, none⟩ = some (.int .u16 0) := cell_on hb41 n3_r
        have n4_41 : w41.cell? ⟨w1.heap.size, 4, none⟩ = some (.int .u8 0) := cell_on hb41 n4_r
        have hg41_0 : w.heap.size < w41.heap.size := by omega
        have hg41_1 : w.heap.size + 1 < w41.heap.size := by omega
        have hg41_2 : w1.heap.size < w41.heap.size := by omega
        have hl41 : w.heap.size ≤ w41.heap.size := by omega
        have hw41 : Hid (Below w.heap.size w w41) := hwr.out.trans (hb41.mono (by first | omega | (simp; done) | (simp; omega)))
        clear hb41 h0_r h1_r h2_r h3_r h4_r x0_r x1_r x2_r x3_r x4_r n0_r n1_r n2_r n3_r n4_r hgr_0 hgr_1 hgr_2 hwr
        go_wp2_with (fail)
        refine (c1 _).mono ?_
        rintro e w42 ⟨rfl, hb42⟩
        have hz42 := hb42.size
        (try simp at hz42)
        have h0_42 : w42.cell? ⟨w.heap.size, 0, none⟩ = some (.int .u32 (h.s : Int)) := cell_on hb42 h0_41
        have h1_42 : w42.cell? ⟨w.heap.size, 1, none⟩ = some (.int .u32 (h.d : Int)) := cell_on hb42 h1_41
        have h2_42 : w42.cell? ⟨w.heap.size, 2, none⟩ = some (.int .u16 (h.p : Int)) := cell_on hb42 h2_41
        have h3_42 : w42.cell? ⟨w.heap.size, 3, none⟩ = some (.int .u16 (h.q : Int)) := cell_on hb42 h3_41
        have h4_42 : w42.cell? ⟨w.heap.size, 4, none⟩ = some (.int .u8 (h.r : Int)) := cell_on hb42 h4_41
        have x0_42 : w42.cell? ⟨w.heap.size + 1, 0, none⟩ = some (.int .u32 (x.s : Int)) := cell_on hb42 x0_41
        have x1_42 : w42.cell? ⟨w.heap.size + 1, 1, none⟩ = some (.int .u32 (x.d : Int)) := cell_on hb42 x1_41
        have x2_42 : w42.cell? ⟨w.heap.size + 1, 2, none⟩ = some (.int .u16 (x.p : Int)) := cell_on hb42 x2_41
        have x3_42 : w42.cell? ⟨w.heap.size + 1, 3, none⟩ = some (.int .u16 (x.q : Int)) := cell_on hb42 x3_41
        have x4_42 : w42.cell? ⟨w.heap.size + 1, 4, none⟩ = some (.int .u8 (x.r : Int)) := cell_on hb42 x4_41
        have n0_42 : w42.cell? ⟨w1.heap.size, 0, none⟩ = some (.int .u32 0) := cell_on hb42 n0_41
        have n1_42 : w42.cell? ⟨w1.heap.size, 1, none⟩ = some (.int .u32 0) := cell_on hb42 n1_41
        have n2_42 : w42.cell? ⟨w1.heap.size, 2, none⟩ = some (.int .u16 0) := cell_on hb42 n2_41
        have n3_42 : w42.cell? ⟨w1.heap.size, 3, none⟩ = some (.int .u16 0) := cell_on hb42 n3_41
        have n4_42 : w42.cell? ⟨w1.heap.size, 4, none⟩ = some (.int .u8 0) := cell_on hb42 n4_41
        have hg42_0 : w.heap.size < w42.heap.size := by omega
        have hg42_1 : w.heap.size + 1 < w42.heap.size := by omega
        have hg42_2 : w1.heap.size < w42.heap.size := by omega
        have hl42 : w.heap.size ≤ w42.heap.size := by omega
        have hw42 : Hid (Below w.heap.size w w42) := hw41.out.trans (hb42.mono (by first | omega | (simp; done) | (simp; omega)))
        clear hb42 h0_41 h1_41 h2_41 h3_41 h4_41 x0_41 x1_41 x2_41 x3_41 x4_41 n0_41 n1_41 n2_41 n3_41 n4_41 hg41_0 hg41_1 hg41_2 hw41
        go_wp2_with (fail)
        go_ret
        exact ⟨ret_same (by simp), hw42.out⟩
  · rw [hb] at kN hall
    have c2 := fun W => hC h x W o ox
    have c3 := fun W => hC x (nxt h) W ox (nxt_ok o)
    have c4 := fun W => hC h (nxt h) W o (nxt_ok o)
    rw [step_next o hb] at c4
    have hs := step_none (x := x) o hb
    have k1 := kN
    generalize nxt h = nx at *
    by_cases hx : cmpH h x = -1
    · have hr := hs hx
      rw [hx] at c2
      generalize cmpH x nx = r at *
      have hr1 : (r == -1) = false := by rw [beq_eq_false_iff_ne]; exact hr
      clear kN hs hx hb hN hB hC
      go_enter Try.func4, Try.ntmps4
      go_wp2_with (fail)
      refine (k1 _).mono ?_
      rintro e w1 ⟨rfl, hb1⟩
      have hz1 := hb1.size
      (try simp at hz1)
      have h0_1 : w1.cell? ⟨w.heap.size, 0, none⟩ = some (.int .u32 (h.s : Int)) := cell_on hb1 (show ((w.alloc (.cells #[.int .u32 (h.s : Int), .int .u32 (h.d : Int), .int .u16 (h.p : Int), .int .u16 (h.q : Int), .int .u8 (h.r : Int)] 25)).alloc (.cells #[.int .u32 (x.s : Int), .int .u32 (x.d : Int), .int .u16 (x.p : Int), .int .u16 (x.q : Int), .int .u8 (x.r : Int)] 25)).cell? ⟨w.heap.size, 0, none⟩ = some (.int .u32 (h.s : Int)) from by simp [go_sem])
      have h1_1 : w1.cell? ⟨w.heap.size, 1, none⟩ = some (.int .u32 (h.d : Int)) := cell_on hb1 (show ((w.alloc (.cells #[.int .u32 (h.s : Int), .int .u32 (h.d : Int), .int .u16 (h.p : Int), .int .u16 (h.q : Int), .int .u8 (h.r : Int)] 25)).alloc (.cells #[.int .u32 (x.s : Int), .int .u32 (x.d : Int), .int .u16 (x.p : Int), .int .u16 (x.q : Int), .int .u8 (x.r : Int)] 25)).cell? ⟨w.heap.size, 1, none⟩ = some (.int .u32 (h.d : Int)) from by simp [go_sem])
      have h2_1 : w1.cell? ⟨w.heap.size, 2, none⟩ = some (.int .u16 (h.p : Int)) := cell_on hb1 (show ((w.alloc (.cells #[.int .u32 (h.s : Int), .int .u32 (h.d : Int), .int .u16 (h.p : Int), .int .u16 (h.q : Int), .int .u8 (h.r : Int)] 25)).alloc (.cells #[.int .u32 (x.s : Int), .int .u32 (x.d : Int), .int .u16 (x.p : Int), .int .u16 (x.q : Int), .int .u8 (x.r : Int)] 25)).cell? ⟨w.heap.size, 2, none⟩ = some (.int .u16 (h.p : Int)) from by simp [go_sem])
      have h3_1 : w1.cell? ⟨w.heap.size, 3, none⟩ = some (.int .u16 (h.q : Int)) := cell_on hb1 (show ((w.alloc (.cells #[.int .u32 (h.s : Int), .int .u32 (h.d : Int), .int .u16 (h.p : Int), .int .u16 (h.q : Int), .int .u8 (h.r : Int)] 25)).alloc (.cells #[.int .u32 (x.s : Int), .int .u32 (x.d : Int), .int .u16 (x.p : Int), .int .u16 (x.q : Int), .int .u8 (x.r : Int)] 25)).cell? ⟨w.heap.size, 3, none⟩ = some (.int .u16 (h.q : Int)) from by simp [go_sem])
      have h4_1 : w1.cell? ⟨w.heap.size, 4, none⟩ = some (.int .u8 (h.r : Int)) := cell_on hb1 (show ((w.alloc (.cells #[.int .u32 (h.s : Int), .int .u32 (h.d : Int), .int .u16 (h.p : Int), .int .u16 (h.q : Int), .int .u8 (h.r : Int)] 25)).alloc (.cells #[.int .u32 (x.s : Int), .int .u32 (x.d : Int), .int .u16 (x.p : Int), .int .u16 (x.q : Int), .int .u8 (x.r : Int)] 25)).cell? ⟨w.heap.size, 4, none⟩ = some (.int .u8 (h.r : Int)) from by simp [go_sem])
      have x0_1 : w1.cell? ⟨w.heap.size + 1, 0, none⟩ = some (.int .u32 (x.s : Int)) := cell_on hb1 (show ((w.alloc (.cells #[.int .u32 (h.s : Int), .int .u32 (h.d : Int), .int .u16 (h.p : Int), .int .u16 (h.q : Int), .int .u8 (h.r : Int)] 25)).alloc (.cells #[.int .u32 (x.s : Int), .int .u32 (x.d : Int), .int .u16 (x.p : Int), .int .u16 (x.q : Int), .int .u8 (x.r : Int)] 25)).cell? ⟨w.heap.size + 1, 0, none⟩ = some (.int .u32 (x.s : Int)) from by simp [go_sem])
      have x1_1 : w1.cell? ⟨w.heap.size + 1, 1, none⟩ = some (.int .u32 (x.d : Int)) := cell_on hb1 (show ((w.alloc (.cells #[.int .u32 (h.s : Int), .int .u32 (h.d : Int), .int .u16 (h.p : Int), .int .u16 (h.q : Int), .int .u8 (h.r : Int)] 25)).alloc (.cells #[.int .u32 (x.s : Int), .int .u32 (x.d : Int), .int .u16 (x.p : Int), .int .u16 (x.q : Int), .int .u8 (x.r : Int)] 25)).cell? ⟨w.heap.size + 1, 1, none⟩ = some (.int .u32 (x.d : Int)) from by simp [go_sem])
      have x2_1 : w1.cell? ⟨w.heap.size + 1, 2, none⟩ = some (.int .u16 (x.p : Int)) := cell_on hb1 (show ((w.alloc (.cells #[.int .u32 (h.s : Int), .int .u32 (h.d : Int), .int .u16 (h.p : Int), .int .u16 (h.q : Int), .int .u8 (h.r : Int)] 25)).alloc (.cells #[.int .u32 (x.s : Int), .int .u32 (x.d : Int), .int .u16 (x.p : Int), .int .u16 (x.q : Int), .int .u8 (x.r : Int)] 25)).cell? ⟨w.heap.size + 1, 2, none⟩ = some (.int .u16 (x.p : Int)) from by simp [go_sem])
      have x3_1 : w1.cell? ⟨w.heap.size + 1, 3, none⟩ = some (.int .u16 (x.q : Int)) := cell_on hb1 (show ((w.alloc (.cells #[.int .u32 (h.s : Int), .int .u32 (h.d : Int), .int .u16 (h.p : Int), .int .u16 (h.q : Int), .int .u8 (h.r : Int)] 25)).alloc (.cells #[.int .u32 (x.s : Int), .int .u32 (x.d : Int), .int .u16 (x.p : Int), .int .u16 (x.q : Int), .int .u8 (x.r : Int)] 25)).cell? ⟨w.heap.size + 1, 3, none⟩ = some (.int .u16 (x.q : Int)) from by simp [go_sem])
      have x4_1 : w1.cell? ⟨w.heap.size + 1, 4, none⟩ = some (.int .u8 (x.r : Int)) := cell_on hb1 (show ((w.alloc (.cells #[.int .u32 (h.s : Int), .int .u32 (h.d : Int), .int .u16 (h.p : Int), .int .u16 (h.q : Int), .int .u8 (h.r : Int)] 25)).alloc (.cells #[.int .u32 (x.s : Int), .int .u32 (x.d : Int), .int .u16 (x.p : Int), .int .u16 (x.q : Int), .int .u8 (x.r : Int)] 25)).cell? ⟨w.heap.size + 1, 4, none⟩ = some (.int .u8 (x.r : Int)) from by simp [go_sem])
      have hg1_0 : w.heap.size < w1.heap.size := by omega
      have hg1_1 : w.heap.size + 1 < w1.heap.size := by omega
      have hl1 : w.heap.size ≤ w1.heap.size := by omega
      have hw1 : Hid (Below w.heap.size w w1) := (((Below.refl _ _).alloc (by first | omega | (simp; done) | (simp; omega)) _).alloc (by first | omega | (simp; done) | (simp; omega)) _).trans (hb1.mono (by first | omega | (simp; done) | (simp; omega)))
      clear hb1
      go_wp2_with (fail)
      obtain ⟨W, hW⟩ : ∃ W, W = (w1.alloc (.cells #[.int .u32 (nx.s : Int), .int .u32 (nx.d : Int), .int .u16 (nx.p : Int), .int .u16 (nx.q : Int), .int .u8 (nx.r : Int)] 25)) := ⟨_, rfl⟩
      have h0_W : W.cell? ⟨w.heap.size, 0, none⟩ = some (.int .u32 (h.s : Int)) := by rw [hW]; exact (cell_alloc h0_1)
      have h1_W : W.cell? ⟨w.heap.size, 1, none⟩ = some (.int .u32 (h.d : Int)) := by rw [hW]; exact (cell_alloc h1_1)
      have h2_W : W.cell? ⟨w.heap.size, 2, none⟩ = some (.int .u16 (h.p : Int)) := by rw [hW]; exact (cell_alloc h2_1)
      have h3_W : W.cell? ⟨w.heap.size, 3, none⟩ = some (.int .u16 (h.q : Int)) := by rw [hW]; exact (cell_alloc h3_1)
      have h4_W : W.cell? ⟨w.heap.size, 4, none⟩ = some (.int .u8 (h.r : Int)) := by rw [hW]; exact (cell_alloc h4_1)
      have x0_W : W.cell? ⟨w.heap.size + 1, 0, none⟩ = some (.int .u32 (x.s : Int)) := by rw [hW]; exact (cell_alloc x0_1)
      have x1_W : W.cell? ⟨w.heap.size + 1, 1, none⟩ = some (.int .u32 (x.d : Int)) := by rw [hW]; exact (cell_alloc x1_1)
      have x2_W : W.cell? ⟨w.heap.size + 1, 2, none⟩ = some (.int .u16 (x.p : Int)) := by rw [hW]; exact (cell_alloc x2_1)
      have x3_W : W.cell? ⟨w.heap.size + 1, 3, none⟩ = some (.int .u16 (x.q : Int)) := by rw [hW]; exact (cell_alloc x3_1)
      have x4_W : W.cell? ⟨w.heap.size + 1, 4, none⟩ = some (.int .u8 (x.r : Int)) := by rw [hW]; exact (cell_alloc x4_1)
      have n0_W : W.cell? ⟨w1.heap.size, 0, none⟩ = some (.int .u32 (nx.s : Int)) := by rw [hW]; exact (show (w1.alloc (.cells #[.int .u32 (nx.s : Int), .int .u32 (nx.d : Int), .int .u16 (nx.p : Int), .int .u16 (nx.q : Int), .int .u8 (nx.r : Int)] 25)).cell? ⟨w1.heap.size, 0, none⟩ = some (.int .u32 (nx.s : Int)) from by simp [go_sem])
      have n1_W : W.cell? ⟨w1.heap.size, 1, none⟩ = some (.int .u32 (nx.d : Int)) := by rw [hW]; exact (show (w1.alloc (.cells #[.int .u32 (nx.s : Int), .int .u32 (nx.d : Int), .int .u16 (nx.p : Int), .int .u16 (nx.q : Int), .int .u8 (nx.r : Int)] 25)).cell? ⟨w1.heap.size, 1, none⟩ = some (.int .u32 (nx.d : Int)) from by simp [go_sem])
      have n2_W : W.cell? ⟨w1.heap.size, 2, none⟩ = some (.int .u16 (nx.p : Int)) := by rw [hW]; exact (show (w1.alloc (.cells #[.int .u32 (nx.s : Int), .int .u32 (nx.d : Int), .int .u16 (nx.p : Int), .int .u16 (nx.q : Int), .int .u8 (nx.r : Int)] 25)).cell? ⟨w1.heap.size, 2, none⟩ = some (.int .u16 (nx.p : Int)) from by simp [go_sem])
      have n3_W : W.cell? ⟨w1.heap.size, 3, none⟩ = some (.int .u16 (nx.q : Int)) := by rw [hW]; exact (show (w1.alloc (.cells #[.int .u32 (nx.s : Int), .int .u32 (nx.d : Int), .int .u16 (nx.p : Int), .int .u16 (nx.q : Int), .int .u8 (nx.r : Int)] 25)).cell? ⟨w1.heap.size, 3, none⟩ = some (.int .u16 (nx.q : Int)) from by simp [go_sem])
      have n4_W : W.cell? ⟨w1.heap.size, 4, none⟩ = some (.int .u8 (nx.r : Int)) := by rw [hW]; exact (show (w1.alloc (.cells #[.int .u32 (nx.s : Int), .int .u32 (nx.d : Int), .int .u16 (nx.p : Int), .int .u16 (nx.q : Int), .int .u8 (nx.r : Int)] 25)).cell? ⟨w1.heap.size, 4, none⟩ = some (.int .u8 (nx.r : Int)) from by simp [go_sem])
      have HWw : Hid (Below w.heap.size w W) := by rw [hW]; exact (hw1.out.alloc (by first | omega | (simp; done) | (simp; omega)) _)
      rw [← hW]
      clear hW hw1 h0_1 h1_1 h2_1 h3_1 h4_1 x0_1 x1_1 x2_1 x3_1 x4_1
      go_loopw [7, 8] (fun av iv wr => ∃ k : Nat, k ≤ 104 ∧ iv = .int .i64 (k : Int) ∧ av = .bool (allB h k) ∧ Hid (Below W.heap.size W wr)) (fun _ iv _ => 104 - (intOf iv).toNat)
      case atStart => exact ⟨0, by omega, rfl, rfl, Below.refl _ _⟩
      case round =>
        obtain ⟨k, hk, rfl, rfl, hbw⟩ := hrel
        have h0_r := cell_on1 hbw.out h0_W
        have h1_r := cell_on1 hbw.out h1_W
        have h2_r := cell_on1 hbw.out h2_W
        have h3_r := cell_on1 hbw.out h3_W
        have h4_r := cell_on1 hbw.out h4_W
        have x0_r := cell_on1 hbw.out x0_W
        have x1_r := cell_on1 hbw.out x1_W
        have x2_r := cell_on1 hbw.out x2_W
        have x3_r := cell_on1 hbw.out x3_W
        have x4_r := cell_on1 hbw.out x4_W
        have n0_r := cell_on1 hbw.out n0_W
        have n1_r := cell_on1 hbw.out n1_W
        have n2_r := cell_on1 hbw.out n2_W
        have n3_r := cell_on1 hbw.out n3_W
        have n4_r := cell_on1 hbw.out n4_W
        have hzr := hbw.out.size
        by_cases hlt : k < 104
        · have hlt' : (k : Int) < 104 := by omega
          have hb1 := fun W => kB k W hlt
          have HS : Hid (allB h (k + 1) = (allB h k && decide (bitH h k = 1))) := rfl
          have hz := bit_cases h k
          generalize allB h k = c at *
          generalize bitH h k = z at *
          rcases hz with rfl | rfl
          all_goals
            cases c
            all_goals
              go_wp2_with (fail)
              refine (hb1 _).mono ?_
              rintro e wb ⟨rfl, hbb⟩
              have HBB : Hid (Below W.heap.size W wb) := hbw.out.trans (hbb.mono hzr)
              clear hbb hbw
              go_wp2_with (fail)
              go_roundw
              case rel => exact ⟨k + 1, by omega, by go_num, by rw [HS.out]; rfl, HBB.out⟩
              case measure => simp [intOf]; omega
        · obtain rfl : k = 104 := by omega
          rw [hall]
          have hwr : Hid (Below w.heap.size w wr) := HWw.out.trans (hbw.out.mono HWw.out.size)
          have hlr : w.heap.size ≤ wr.heap.size := hwr.out.size
          clear hbw HWw h0_W h1_W h2_W h3_W h4_W x0_W x1_W x2_W x3_W x4_W n0_W n1_W n2_W n3_W n4_W
          have hgr_0 : w.heap.size < wr.heap.size := World.block_lt_of_cell? _ _ h0_r
          have hgr_1 : w.heap.size + 1 < wr.heap.size := World.block_lt_of_cell? _ _ x0_r
          have hgr_2 : w1.heap.size < wr.heap.size := World.block_lt_of_cell? _ _ n0_r
          go_wp2_with (fail)
          refine (c2 _).mono ?_
          rintro e w41 ⟨rfl, hb41⟩
          have hz41 := hb41.size
          (try simp at hz41)
          have h0_41 : w41.cell? ⟨w.heap.size, 0, none⟩ = some (.int .u32 (h.s : Int)) := cell_on hb41 h0_r
          have h1_41 : w41.cell? ⟨w.heap.size, 1, none⟩ = some (.int .u32 (h.d : Int)) := cell_on hb41 h1_r
          have h2_41 : w41.cell? ⟨w.heap.size, 2, none⟩ = some (.int .u16 (h.p : Int)) := cell_on hb41 h2_r
          have h3_41 : w41.cell? ⟨w.heap.size, 3, none⟩ = some (.int .u16 (h.q : Int)) := cell_on hb41 h3_r
          have h4_41 : w41.cell? ⟨w.heap.size, 4, none⟩ = some (.int .u8 (h.r : Int)) := cell_on hb41 h4_r
          have x0_41 : w41.cell? ⟨w.heap.size + 1, 0, none⟩ = some (.int .u32 (x.s : Int)) := cell_on hb41 x0_r
          have x1_41 : w41.cell? ⟨w.heap.size + 1, 1, none⟩ = some (.int .u32 (x.d : Int)) := cell_on hb41 x1_r
          have x2_41 : w41.cell? ⟨w.heap.size + 1, 2, none⟩ = some (.int .u16 (x.p : Int)) := cell_on hb41 x2_r
          have x3_41 : w41.cell? ⟨w.heap.size + 1, 3, none⟩ = some (.int .u16 (x.q : Int)) := cell_on hb41 x3_r
          have x4_41 : w41.cell? ⟨w.heap.size + 1, 4, none⟩ = some (.int .u8 (x.r : Int)) := cell_on hb41 x4_r
          have n0_41 : w41.cell? ⟨w1.heap.size, 0, none⟩ = some (.int .u32 (nx.s : Int)) := cell_on hb41 n0_r
          have n1_41 : w41.cell? ⟨w1.heap.size, 1, none⟩ = some (.int .u32 (nx.d : Int)) := cell_on hb41 n1_r
          have n2_41 : w41.cell? ⟨w1.heap.size, 2, none⟩ = some (.int .u16 (nx.p : Int)) := cell_on hb41 n2_r
          have n3_41 : w41.cell? ⟨w1.heap.size, 3, none⟩ = some (.int .u16 (nx.q : Int)) := cell_on hb41 n3_r
          have n4_41 : w41.cell? ⟨w1.heap.size, 4, none⟩ = some (.int .u8 (nx.r : Int)) := cell_on hb41 n4_r
          have hg41_0 : w.heap.size < w41.heap.size := by omega
          have hg41_1 : w.heap.size + 1 < w41.heap.size := by omega
          have hg41_2 : w1.heap.size < w41.heap.size := by omega
          have hl41 : w.heap.size ≤ w41.heap.size := by omega
          have hw41 : Hid (Below w.heap.size w w41) := hwr.out.trans (hb41.mono (by first | omega | (simp; done) | (simp; omega)))
          clear hb41 h0_r h1_r h2_r h3_r h4_r x0_r x1_r x2_r x3_r x4_r n0_r n1_r n2_r n3_r n4_r hgr_0 hgr_1 hgr_2 hwr
          go_wp2_with (fail)
          refine (c3 _).mono ?_
          rintro e w42 ⟨rfl, hb42⟩
          have hz42 := hb42.size
          (try simp at hz42)
          have h0_42 : w42.cell? ⟨w.heap.size, 0, none⟩ = some (.int .u32 (h.s : Int)) := cell_on hb42 h0_41
          have h1_42 : w42.cell? ⟨w.heap.size, 1, none⟩ = some (.int .u32 (h.d : Int)) := cell_on hb42 h1_41
          have h2_42 : w42.cell? ⟨w.heap.size, 2, none⟩ = some (.int .u16 (h.p : Int)) := cell_on hb42 h2_41
          have h3_42 : w42.cell? ⟨w.heap.size, 3, none⟩ = some (.int .u16 (h.q : Int)) := cell_on hb42 h3_41
          have h4_42 : w42.cell? ⟨w.heap.size, 4, none⟩ = some (.int .u8 (h.r : Int)) := cell_on hb42 h4_41
          have x0_42 : w42.cell? ⟨w.heap.size + 1, 0, none⟩ = some (.int .u32 (x.s : Int)) := cell_on hb42 x0_41
          have x1_42 : w42.cell? ⟨w.heap.size + 1, 1, none⟩ = some (.int .u32 (x.d : Int)) := cell_on hb42 x1_41
          have x2_42 : w42.cell? ⟨w.heap.size + 1, 2, none⟩ = some (.int .u16 (x.p : Int)) := cell_on hb42 x2_41
          have x3_42 : w42.cell? ⟨w.heap.size + 1, 3, none⟩ = some (.int .u16 (x.q : Int)) := cell_on hb42 x3_41
          have x4_42 : w42.cell? ⟨w.heap.size + 1, 4, none⟩ = some (.int .u8 (x.r : Int)) := cell_on hb42 x4_41
          have n0_42 : w42.cell? ⟨w1.heap.size, 0, none⟩ = some (.int .u32 (nx.s : Int)) := cell_on hb42 n0_41
          have n1_42 : w42.cell? ⟨w1.heap.size, 1, none⟩ = some (.int .u32 (nx.d : Int)) := cell_on hb42 n1_41
          have n2_42 : w42.cell? ⟨w1.heap.size, 2, none⟩ = some (.int .u16 (nx.p : Int)) := cell_on hb42 n2_41
          have n3_42 : w42.cell? ⟨w1.heap.size, 3, none⟩ = some (.int .u16 (nx.q : Int)) := cell_on hb42 n3_41
          have n4_42 : w42.cell? ⟨w1.heap.size, 4, none⟩ = some (.int .u8 (nx.r : Int)) := cell_on hb42 n4_41
          have hg42_0 : w.heap.size < w42.heap.size := by omega
          have hg42_1 : w.heap.size + 1 < w42.heap.size := by omega
          have hg42_2 : w1.heap.size < w42.heap.size := by omega
          have hl42 : w.heap.size ≤ w42.heap.size := by omega
          have hw42 : Hid (Below w.heap.size w w42) := hw41.out.trans (hb42.mono (by first | omega | (simp; done) | (simp; omega)))
          clear hb42 h0_41 h1_41 h2_41 h3_41 h4_41 x0_41 x1_41 x2_41 x3_41 x4_41 n0_41 n1_41 n2_41 n3_41 n4_41 hg41_0 hg41_1 hg41_2 hw41
          go_wp2_with (fail)
          refine (hA _).mono ?_
          rintro e w43 ⟨rfl, hb43⟩
          have hz43 := hb43.size
          (try simp at hz43)
          have h0_43 : w43.cell? ⟨w.heap.size, 0, none⟩ = some (.int .u32 (h.s : Int)) := cell_on hb43 h0_42
          have h1_43 : w43.cell? ⟨w.heap.size, 1, none⟩ = some (.int .u32 (h.d : Int)) := cell_on hb43 h1_42
          have h2_43 : w43.cell? ⟨w.heap.size, 2, none⟩ = some (.int .u16 (h.p : Int)) := cell_on hb43 h2_42
          have h3_43 : w43.cell? ⟨w.heap.size, 3, none⟩ = some (.int .u16 (h.q : Int)) := cell_on hb43 h3_42
          have h4_43 : w43.cell? ⟨w.heap.size, 4, none⟩ = some (.int .u8 (h.r : Int)) := cell_on hb43 h4_42
          have x0_43 : w43.cell? ⟨w.heap.size + 1, 0, none⟩ = some (.int .u32 (x.s : Int)) := cell_on hb43 x0_42
          have x1_43 : w43.cell? ⟨w.heap.size + 1, 1, none⟩ = some (.int .u32 (x.d : Int)) := cell_on hb43 x1_42
          have x2_43 : w43.cell? ⟨w.heap.size + 1, 2, none⟩ = some (.int .u16 (x.p : Int)) := cell_on hb43 x2_42
          have x3_43 : w43.cell? ⟨w.heap.size + 1, 3, none⟩ = some (.int .u16 (x.q : Int)) := cell_on hb43 x3_42
          have x4_43 : w43.cell? ⟨w.heap.size + 1, 4, none⟩ = some (.int .u8 (x.r : Int)) := cell_on hb43 x4_42
          have n0_43 : w43.cell? ⟨w1.heap.size, 0, none⟩ = some (.int .u32 (nx.s : Int)) := cell_on hb43 n0_42
          have n1_43 : w43.cell? ⟨w1.heap.size, 1, none⟩ = some (.int .u32 (nx.d : Int)) := cell_on hb43 n1_42
          have n2_43 : w43.cell? ⟨w1.heap.size, 2, none⟩ = some (.int .u16 (nx.p : Int)) := cell_on hb43 n2_42
          have n3_43 : w43.cell? ⟨w1.heap.size, 3, none⟩ = some (.int .u16 (nx.q : Int)) := cell_on hb43 n3_42
          have n4_43 : w43.cell? ⟨w1.heap.size, 4, none⟩ = some (.int .u8 (nx.r : Int)) := cell_on hb43 n4_42
          have hg43_0 : w.heap.size < w43.heap.size := by omega
          have hg43_1 : w.heap.size + 1 < w43.heap.size := by omega
          have hg43_2 : w1.heap.size < w43.heap.size := by omega
          have hl43 : w.heap.size ≤ w43.heap.size := by omega
          have hw43 : Hid (Below w.heap.size w w43) := hw42.out.trans (hb43.mono (by first | omega | (simp; done) | (simp; omega)))
          clear hb43 h0_42 h1_42 h2_42 h3_42 h4_42 x0_42 x1_42 x2_42 x3_42 x4_42 n0_42 n1_42 n2_42 n3_42 n4_42 hg42_0 hg42_1 hg42_2 hw42
          go_wp2_with (fail)
          refine (c4 _).mono ?_
          rintro e w44 ⟨rfl, hb44⟩
          have hz44 := hb44.size
          (try simp at hz44)
          have h0_44 : w44.cell? ⟨w.heap.size, 0, none⟩ = some (.int .u32 (h.s : Int)) := cell_on hb44 h0_43
          have h1_44 : w44.cell? ⟨w.heap.size, 1, none⟩ = some (.int .u32 (h.d : Int)) := cell_on hb44 h1_43
          have h2_44 : w44.cell? ⟨w.heap.size, 2, none⟩ = some (.int .u16 (h.p : Int)) := cell_on hb44 h2_43
          have h3_44 : w44.cell? ⟨w.heap.size, 3, none⟩ = some (.int .u16 (h.q : Int)) := cell_on hb44 h3_43
          have h4_44 : w44.cell? ⟨w.heap.size, 4, none⟩ = some (.int .u8 (h.r : Int)) := cell_on hb44 h4_43
          have x0_44 : w44.cell? ⟨w.heap.size + 1, 0, none⟩ = some (.int .u32 (x.s : Int)) := cell_on hb44 x0_43
          have x1_44 : w44.cell? ⟨w.heap.size + 1, 1, none⟩ = some (.int .u32 (x.d : Int)) := cell_on hb44 x1_43
          have x2_44 : w44.cell? ⟨w.heap.size + 1, 2, none⟩ = some (.int .u16 (x.p : Int)) := cell_on hb44 x2_43
          have x3_44 : w44.cell? ⟨w.heap.size + 1, 3, none⟩ = some (.int .u16 (x.q : Int)) := cell_on hb44 x3_43
          have x4_44 : w44.cell? ⟨w.heap.size + 1, 4, none⟩ = some (.int .u8 (x.r : Int)) := cell_on hb44 x4_43
          have n0_44 : w44.cell? ⟨w1.heap.size, 0, none⟩ = some (.int .u32 (nx.s : Int)) := cell_on hb44 n0_43
          have n1_44 : w44.cell? ⟨w1.heap.size, 1, none⟩ = some (.int .u32 (nx.d : Int)) := cell_on hb44 n1_43
          have n2_44 : w44.cell? ⟨w1.heap.size, 2, none⟩ = some (.int .u16 (nx.p : Int)) := cell_on hb44 n2_43
          have n3_44 : w44.cell? ⟨w1.heap.size, 3, none⟩ = some (.int .u16 (nx.q : Int)) := cell_on hb44 n3_43
          have n4_44 : w44.cell? ⟨w1.heap.size, 4, none⟩ = some (.int .u8 (nx.r : Int)) := cell_on hb44 n4_43
          have hg44_0 : w.heap.size < w44.heap.size := by omega
          have hg44_1 : w.heap.size + 1 < w44.heap.size := by omega
          have hg44_2 : w1.heap.size < w44.heap.size := by omega
          have hl44 : w.heap.size ≤ w44.heap.size := by omega
          have hw44 : Hid (Below w.heap.size w w44) := hw43.out.trans (hb44.mono (by first | omega | (simp; done) | (simp; omega)))
          clear hb44 h0_43 h1_43 h2_43 h3_43 h4_43 x0_43 x1_43 x2_43 x3_43 x4_43 n0_43 n1_43 n2_43 n3_43 n4_43 hg43_0 hg43_1 hg43_2 hw43
          go_wp2_with (fail)
          go_ret
          exact ⟨ret_same (by simp), hw44.out⟩
    · generalize cmpH h x = r at *
      have hr1 : (r == -1) = false := by rw [beq_eq_false_iff_ne]; exact hx
      clear kN hs hb hN hB hC c3
      go_enter Try.func4, Try.ntmps4
      go_wp2_with (fail)
      refine (k1 _).mono ?_
      rintro e w1 ⟨rfl, hb1⟩
      have hz1 := hb1.size
      (try simp at hz1)
      have h0_1 : w1.cell? ⟨w.heap.size, 0, none⟩ = some (.int .u32 (h.s : Int)) := cell_on hb1 (show ((w.alloc (.cells #[.int .u32 (h.s : Int), .int .u32 (h.d : Int), .int .u16 (h.p : Int), .int .u16 (h.q : Int), .int .u8 (h.r : Int)] 25)).alloc (.cells #[.int .u32 (x.s : Int), .int .u32 (x.d : Int), .int .u16 (x.p : Int), .int .u16 (x.q : Int), .int .u8 (x.r : Int)] 25)).cell? ⟨w.heap.size, 0, none⟩ = some (.int .u32 (h.s : Int)) from by simp [go_sem])
      have h1_1 : w1.cell? ⟨w.heap.size, 1, none⟩ = some (.int .u32 (h.d : Int)) := cell_on hb1 (show ((w.alloc (.cells #[.int .u32 (h.s : Int), .int .u32 (h.d : Int), .int .u16 (h.p : Int), .int .u16 (h.q : Int), .int .u8 (h.r : Int)] 25)).alloc (.cells #[.int .u32 (x.s : Int), .int .u32 (x.d : Int), .int .u16 (x.p : Int), .int .u16 (x.q : Int), .int .u8 (x.r : Int)] 25)).cell? ⟨w.heap.size, 1, none⟩ = some (.int .u32 (h.d : Int)) from by simp [go_sem])
      have h2_1 : w1.cell? ⟨w.heap.size, 2, none⟩ = some (.int .u16 (h.p : Int)) := cell_on hb1 (show ((w.alloc (.cells #[.int .u32 (h.s : Int), .int .u32 (h.d : Int), .int .u16 (h.p : Int), .int .u16 (h.q : Int), .int .u8 (h.r : Int)] 25)).alloc (.cells #[.int .u32 (x.s : Int), .int .u32 (x.d : Int), .int .u16 (x.p : Int), .int .u16 (x.q : Int), .int .u8 (x.r : Int)] 25)).cell? ⟨w.heap.size, 2, none⟩ = some (.int .u16 (h.p : Int)) from by simp [go_sem])
      have h3_1 : w1.cell? ⟨w.heap.size, 3, none⟩ = some (.int .u16 (h.q : Int)) := cell_on hb1 (show ((w.alloc (.cells #[.int .u32 (h.s : Int), .int .u32 (h.d : Int), .int .u16 (h.p : Int), .int .u16 (h.q : Int), .int .u8 (h.r : Int)] 25)).alloc (.cells #[.int .u32 (x.s : Int), .int .u32 (x.d : Int), .int .u16 (x.p : Int), .int .u16 (x.q : Int), .int .u8 (x.r : Int)] 25)).cell? ⟨w.heap.size, 3, none⟩ = some (.int .u16 (h.q : Int)) from by simp [go_sem])
      have h4_1 : w1.cell? ⟨w.heap.size, 4, none⟩ = some (.int .u8 (h.r : Int)) := cell_on hb1 (show ((w.alloc (.cells #[.int .u32 (h.s : Int), .int .u32 (h.d : Int), .int .u16 (h.p : Int), .int .u16 (h.q : Int), .int .u8 (h.r : Int)] 25)).alloc (.cells #[.int .u32 (x.s : Int), .int .u32 (x.d : Int), .int .u16 (x.p : Int), .int .u16 (x.q : Int), .int .u8 (x.r : Int)] 25)).cell? ⟨w.heap.size, 4, none⟩ = some (.int .u8 (h.r : Int)) from by simp [go_sem])
      have x0_1 : w1.cell? ⟨w.heap.size + 1, 0, none⟩ = some (.int .u32 (x.s : Int)) := cell_on hb1 (show ((w.alloc (.cells #[.int .u32 (h.s : Int), .int .u32 (h.d : Int), .int .u16 (h.p : Int), .int .u16 (h.q : Int), .int .u8 (h.r : Int)] 25)).alloc (.cells #[.int .u32 (x.s : Int), .int .u32 (x.d : Int), .int .u16 (x.p : Int), .int .u16 (x.q : Int), .int .u8 (x.r : Int)] 25)).cell? ⟨w.heap.size + 1, 0, none⟩ = some (.int .u32 (x.s : Int)) from by simp [go_sem])
      have x1_1 : w1.cell? ⟨w.heap.size + 1, 1, none⟩ = some (.int .u32 (x.d : Int)) := cell_on hb1 (show ((w.alloc (.cells #[.int .u32 (h.s : Int), .int .u32 (h.d : Int), .int .u16 (h.p : Int), .int .u16 (h.q : Int), .int .u8 (h.r : Int)] 25)).alloc (.cells #[.int .u32 (x.s : Int), .int .u32 (x.d : Int), .int .u16 (x.p : Int), .int .u16 (x.q : Int), .int .u8 (x.r : Int)] 25)).cell? ⟨w.heap.size + 1, 1, none⟩ = some (.int .u32 (x.d : Int)) from by simp [go_sem])
      have x2_1 : w1.cell? ⟨w.heap.size + 1, 2, none⟩ = some (.int .u16 (x.p : Int)) := cell_on hb1 (show ((w.alloc (.cells #[.int .u32 (h.s : Int), .int .u32 (h.d : Int), .int .u16 (h.p : Int), .int .u16 (h.q : Int), .int .u8 (h.r : Int)] 25)).alloc (.cells #[.int .u32 (x.s : Int), .int .u32 (x.d : Int), .int .u16 (x.p : Int), .int .u16 (x.q : Int), .int .u8 (x.r : Int)] 25)).cell? ⟨w.heap.size + 1, 2, none⟩ = some (.int .u16 (x.p : Int)) from by simp [go_sem])
      have x3_1 : w1.cell? ⟨w.heap.size + 1, 3, none⟩ = some (.int .u16 (x.q : Int)) := cell_on hb1 (show ((w.alloc (.cells #[.int .u32 (h.s : Int), .int .u32 (h.d : Int), .int .u16 (h.p : Int), .int .u16 (h.q : Int), .int .u8 (h.r : Int)] 25)).alloc (.cells #[.int .u32 (x.s : Int), .int .u32 (x.d : Int), .int .u16 (x.p : Int), .int .u16 (x.q : Int), .int .u8 (x.r : Int)] 25)).cell? ⟨w.heap.size + 1, 3, none⟩ = some (.int .u16 (x.q : Int)) from by simp [go_sem])
      have x4_1 : w1.cell? ⟨w.heap.size + 1, 4, none⟩ = some (.int .u8 (x.r : Int)) := cell_on hb1 (show ((w.alloc (.cells #[.int .u32 (h.s : Int), .int .u32 (h.d : Int), .int .u16 (h.p : Int), .int .u16 (h.q : Int), .int .u8 (h.r : Int)] 25)).alloc (.cells #[.int .u32 (x.s : Int), .int .u32 (x.d : Int), .int .u16 (x.p : Int), .int .u16 (x.q : Int), .int .u8 (x.r : Int)] 25)).cell? ⟨w.heap.size + 1, 4, none⟩ = some (.int .u8 (x.r : Int)) from by simp [go_sem])
      have hg1_0 : w.heap.size < w1.heap.size := by omega
      have hg1_1 : w.heap.size + 1 < w1.heap.size := by omega
      have hl1 : w.heap.size ≤ w1.heap.size := by omega
      have hw1 : Hid (Below w.heap.size w w1) := (((Below.refl _ _).alloc (by first | omega | (simp; done) | (simp; omega)) _).alloc (by first | omega | (simp; done) | (simp; omega)) _).trans (hb1.mono (by first | omega | (simp; done) | (simp; omega)))
      clear hb1
      go_wp2_with (fail)
      obtain ⟨W, hW⟩ : ∃ W, W = (w1.alloc (.cells #[.int .u32 (nx.s : Int), .int .u32 (nx.d : Int), .int .u16 (nx.p : Int), .int .u16 (nx.q : Int), .int .u8 (nx.r : Int)] 25)) := ⟨_, rfl⟩
      have h0_W : W.cell? ⟨w.heap.size, 0, none⟩ = some (.int .u32 (h.s : Int)) := by rw [hW]; exact (cell_alloc h0_1)
      have h1_W : W.cell? ⟨w.heap.size, 1, none⟩ = some (.int .u32 (h.d : Int)) := by rw [hW]; exact (cell_alloc h1_1)
      have h2_W : W.cell? ⟨w.heap.size, 2, none⟩ = some (.int .u16 (h.p : Int)) := by rw [hW]; exact (cell_alloc h2_1)
      have h3_W : W.cell? ⟨w.heap.size, 3, none⟩ = some (.int .u16 (h.q : Int)) := by rw [hW]; exact (cell_alloc h3_1)
      have h4_W : W.cell? ⟨w.heap.size, 4, none⟩ = some (.int .u8 (h.r : Int)) := by rw [hW]; exact (cell_alloc h4_1)
      have x0_W : W.cell? ⟨w.heap.size + 1, 0, none⟩ = some (.int .u32 (x.s : Int)) := by rw [hW]; exact (cell_alloc x0_1)
      have x1_W : W.cell? ⟨w.heap.size + 1, 1, none⟩ = some (.int .u32 (x.d : Int)) := by rw [hW]; exact (cell_alloc x1_1)
      have x2_W : W.cell? ⟨w.heap.size + 1, 2, none⟩ = some (.int .u16 (x.p : Int)) := by rw [hW]; exact (cell_alloc x2_1)
      have x3_W : W.cell? ⟨w.heap.size + 1, 3, none⟩ = some (.int .u16 (x.q : Int)) := by rw [hW]; exact (cell_alloc x3_1)
      have x4_W : W.cell? ⟨w.heap.size + 1, 4, none⟩ = some (.int .u8 (x.r : Int)) := by rw [hW]; exact (cell_alloc x4_1)
      have n0_W : W.cell? ⟨w1.heap.size, 0, none⟩ = some (.int .u32 (nx.s : Int)) := by rw [hW]; exact (show (w1.alloc (.cells #[.int .u32 (nx.s : Int), .int .u32 (nx.d : Int), .int .u16 (nx.p : Int), .int .u16 (nx.q : Int), .int .u8 (nx.r : Int)] 25)).cell? ⟨w1.heap.size, 0, none⟩ = some (.int .u32 (nx.s : Int)) from by simp [go_sem])
      have n1_W : W.cell? ⟨w1.heap.size, 1, none⟩ = some (.int .u32 (nx.d : Int)) := by rw [hW]; exact (show (w1.alloc (.cells #[.int .u32 (nx.s : Int), .int .u32 (nx.d : Int), .int .u16 (nx.p : Int), .int .u16 (nx.q : Int), .int .u8 (nx.r : Int)] 25)).cell? ⟨w1.heap.size, 1, none⟩ = some (.int .u32 (nx.d : Int)) from by simp [go_sem])
      have n2_W : W.cell? ⟨w1.heap.size, 2, none⟩ = some (.int .u16 (nx.p : Int)) := by rw [hW]; exact (show (w1.alloc (.cells #[.int .u32 (nx.s : Int), .int .u32 (nx.d : Int), .int .u16 (nx.p : Int), .int .u16 (nx.q : Int), .int .u8 (nx.r : Int)] 25)).cell? ⟨w1.heap.size, 2, none⟩ = some (.int .u16 (nx.p : Int)) from by simp [go_sem])
      have n3_W : W.cell? ⟨w1.heap.size, 3, none⟩ = some (.int .u16 (nx.q : Int)) := by rw [hW]; exact (show (w1.alloc (.cells #[.int .u32 (nx.s : Int), .int .u32 (nx.d : Int), .int .u16 (nx.p : Int), .int .u16 (nx.q : Int), .int .u8 (nx.r : Int)] 25)).cell? ⟨w1.heap.size, 3, none⟩ = some (.int .u16 (nx.q : Int)) from by simp [go_sem])
      have n4_W : W.cell? ⟨w1.heap.size, 4, none⟩ = some (.int .u8 (nx.r : Int)) := by rw [hW]; exact (show (w1.alloc (.cells #[.int .u32 (nx.s : Int), .int .u32 (nx.d : Int), .int .u16 (nx.p : Int), .int .u16 (nx.q : Int), .int .u8 (nx.r : Int)] 25)).cell? ⟨w1.heap.size, 4, none⟩ = some (.int .u8 (nx.r : Int)) from by simp [go_sem])
      have HWw : Hid (Below w.heap.size w W) := by rw [hW]; exact (hw1.out.alloc (by first | omega | (simp; done) | (simp; omega)) _)
      rw [← hW]
      clear hW hw1 h0_1 h1_1 h2_1 h3_1 h4_1 x0_1 x1_1 x2_1 x3_1 x4_1
      go_loopw [7, 8] (fun av iv wr => ∃ k : Nat, k ≤ 104 ∧ iv = .int .i64 (k : Int) ∧ av = .bool (allB h k) ∧ Hid (Below W.heap.size W wr)) (fun _ iv _ => 104 - (intOf iv).toNat)
      case atStart => exact ⟨0, by omega, rfl, rfl, Below.refl _ _⟩
      case round =>
        obtain ⟨k, hk, rfl, rfl, hbw⟩ := hrel
        have h0_r := cell_on1 hbw.out h0_W
        have h1_r := cell_on1 hbw.out h1_W
        have h2_r := cell_on1 hbw.out h2_W
        have h3_r := cell_on1 hbw.out h3_W
        have h4_r := cell_on1 hbw.out h4_W
        have x0_r := cell_on1 hbw.out x0_W
        have x1_r := cell_on1 hbw.out x1_W
        have x2_r := cell_on1 hbw.out x2_W
        have x3_r := cell_on1 hbw.out x3_W
        have x4_r := cell_on1 hbw.out x4_W
        have n0_r := cell_on1 hbw.out n0_W
        have n1_r := cell_on1 hbw.out n1_W
        have n2_r := cell_on1 hbw.out n2_W
        have n3_r := cell_on1 hbw.out n3_W
        have n4_r := cell_on1 hbw.out n4_W
        have hzr := hbw.out.size
        by_cases hlt : k < 104
        · have hlt' : (k : Int) < 104 := by omega
          have hb1 := fun W => kB k W hlt
          have HS : Hid (allB h (k + 1) = (allB h k && decide (bitH h k = 1))) := rfl
          have hz := bit_cases h k
          generalize allB h k = c at *
          generalize bitH h k = z at *
          rcases hz with rfl | rfl
          all_goals
            cases c
            all_goals
              go_wp2_with (fail)
              refine (hb1 _).mono ?_
              rintro e wb ⟨rfl, hbb⟩
              have HBB : Hid (Below W.heap.size W wb) := hbw.out.trans (hbb.mono hzr)
              clear hbb hbw
              go_wp2_with (fail)
              go_roundw
              case rel => exact ⟨k + 1, by omega, by go_num, by rw [HS.out]; rfl, HBB.out⟩
              case measure => simp [intOf]; omega
        · obtain rfl : k = 104 := by omega
          rw [hall]
          have hwr : Hid (Below w.heap.size w wr) := HWw.out.trans (hbw.out.mono HWw.out.size)
          have hlr : w.heap.size ≤ wr.heap.size := hwr.out.size
          clear hbw HWw h0_W h1_W h2_W h3_W h4_W x0_W x1_W x2_W x3_W x4_W n0_W n1_W n2_W n3_W n4_W
          have hgr_0 : w.heap.size < wr.heap.size := World.block_lt_of_cell? _ _ h0_r
          have hgr_1 : w.heap.size + 1 < wr.heap.size := World.block_lt_of_cell? _ _ x0_r
          have hgr_2 : w1.heap.size < wr.heap.size := World.block_lt_of_cell? _ _ n0_r
          go_wp2_with (fail)
          refine (c2 _).mono ?_
          rintro e w41 ⟨rfl, hb41⟩
          have hz41 := hb41.size
          (try simp at hz41)
          have h0_41 : w41.cell? ⟨w.heap.size, 0, none⟩ = some (.int .u32 (h.s : Int)) := cell_on hb41 h0_r
          have h1_41 : w41.cell? ⟨w.heap.size, 1, none⟩ = some (.int .u32 (h.d : Int)) := cell_on hb41 h1_r
          have h2_41 : w41.cell? ⟨w.heap.size, 2, none⟩ = some (.int .u16 (h.p : Int)) := cell_on hb41 h2_r
          have h3_41 : w41.cell? ⟨w.heap.size, 3, none⟩ = some (.int .u16 (h.q : Int)) := cell_on hb41 h3_r
          have h4_41 : w41.cell? ⟨w.heap.size, 4, none⟩ = some (.int .u8 (h.r : Int)) := cell_on hb41 h4_r
          have x0_41 : w41.cell? ⟨w.heap.size + 1, 0, none⟩ = some (.int .u32 (x.s : Int)) := cell_on hb41 x0_r
          have x1_41 : w41.cell? ⟨w.heap.size + 1, 1, none⟩ = some (.int .u32 (x.d : Int)) := cell_on hb41 x1_r
          have x2_41 : w41.cell? ⟨w.heap.size + 1, 2, none⟩ = some (.int .u16 (x.p : Int)) := cell_on hb41 x2_r
          have x3_41 : w41.cell? ⟨w.heap.size + 1, 3, none⟩ = some (.int .u16 (x.q : Int)) := cell_on hb41 x3_r
          have x4_41 : w41.cell? ⟨w.heap.size + 1, 4, none⟩ = some (.int .u8 (x.r : Int)) := cell_on hb41 x4_r
          have n0_41 : w41.cell? ⟨w1.heap.size, 0, none⟩ = some (.int .u32 (nx.s : Int)) := cell_on hb41 n0_r
          have n1_41 : w41.cell? ⟨w1.heap.size, 1, none⟩ = some (.int .u32 (nx.d : Int)) := cell_on hb41 n1_r
          have n2_41 : w41.cell? ⟨w1.heap.size, 2, none⟩ = some (.int .u16 (nx.p : Int)) := cell_on hb41 n2_r
          have n3_41 : w41.cell? ⟨w1.heap.size, 3, none⟩ = some (.int .u16 (nx.q : Int)) := cell_on hb41 n3_r
          have n4_41 : w41.cell? ⟨w1.heap.size, 4, none⟩ = some (.int .u8 (nx.r : Int)) := cell_on hb41 n4_r
          have hg41_0 : w.heap.size < w41.heap.size := by omega
          have hg41_1 : w.heap.size + 1 < w41.heap.size := by omega
          have hg41_2 : w1.heap.size < w41.heap.size := by omega
          have hl41 : w.heap.size ≤ w41.heap.size := by omega
          have hw41 : Hid (Below w.heap.size w w41) := hwr.out.trans (hb41.mono (by first | omega | (simp; done) | (simp; omega)))
          clear hb41 h0_r h1_r h2_r h3_r h4_r x0_r x1_r x2_r x3_r x4_r n0_r n1_r n2_r n3_r n4_r hgr_0 hgr_1 hgr_2 hwr
          go_wp2_with (fail)
          refine (hA _).mono ?_
          rintro e w42 ⟨rfl, hb42⟩
          have hz42 := hb42.size
          (try simp at hz42)
          have h0_42 : w42.cell? ⟨w.heap.size, 0, none⟩ = some (.int .u32 (h.s : Int)) := cell_on hb42 h0_41
          have h1_42 : w42.cell? ⟨w.heap.size, 1, none⟩ = some (.int .u32 (h.d : Int)) := cell_on hb42 h1_41
          have h2_42 : w42.cell? ⟨w.heap.size, 2, none⟩ = some (.int .u16 (h.p : Int)) := cell_on hb42 h2_41
          have h3_42 : w42.cell? ⟨w.heap.size, 3, none⟩ = some (.int .u16 (h.q : Int)) := cell_on hb42 h3_41
          have h4_42 : w42.cell? ⟨w.heap.size, 4, none⟩ = some (.int .u8 (h.r : Int)) := cell_on hb42 h4_41
          have x0_42 : w42.cell? ⟨w.heap.size + 1, 0, none⟩ = some (.int .u32 (x.s : Int)) := cell_on hb42 x0_41
          have x1_42 : w42.cell? ⟨w.heap.size + 1, 1, none⟩ = some (.int .u32 (x.d : Int)) := cell_on hb42 x1_41
          have x2_42 : w42.cell? ⟨w.heap.size + 1, 2, none⟩ = some (.int .u16 (x.p : Int)) := cell_on hb42 x2_41
          have x3_42 : w42.cell? ⟨w.heap.size + 1, 3, none⟩ = some (.int .u16 (x.q : Int)) := cell_on hb42 x3_41
          have x4_42 : w42.cell? ⟨w.heap.size + 1, 4, none⟩ = some (.int .u8 (x.r : Int)) := cell_on hb42 x4_41
          have n0_42 : w42.cell? ⟨w1.heap.size, 0, none⟩ = some (.int .u32 (nx.s : Int)) := cell_on hb42 n0_41
          have n1_42 : w42.cell? ⟨w1.heap.size, 1, none⟩ = some (.int .u32 (nx.d : Int)) := cell_on hb42 n1_41
          have n2_42 : w42.cell? ⟨w1.heap.size, 2, none⟩ = some (.int .u16 (nx.p : Int)) := cell_on hb42 n2_41
          have n3_42 : w42.cell? ⟨w1.heap.size, 3, none⟩ = some (.int .u16 (nx.q : Int)) := cell_on hb42 n3_41
          have n4_42 : w42.cell? ⟨w1.heap.size, 4, none⟩ = some (.int .u8 (nx.r : Int)) := cell_on hb42 n4_41
          have hg42_0 : w.heap.size < w42.heap.size := by omega
          have hg42_1 : w.heap.size + 1 < w42.heap.size := by omega
          have hg42_2 : w1.heap.size < w42.heap.size := by omega
          have hl42 : w.heap.size ≤ w42.heap.size := by omega
          have hw42 : Hid (Below w.heap.size w w42) := hw41.out.trans (hb42.mono (by first | omega | (simp; done) | (simp; omega)))
          clear hb42 h0_41 h1_41 h2_41 h3_41 h4_41 x0_41 x1_41 x2_41 x3_41 x4_41 n0_41 n1_41 n2_41 n3_41 n4_41 hg41_0 hg41_1 hg41_2 hw41
          go_wp2_with (fail)
          refine (c4 _).mono ?_
          rintro e w43 ⟨rfl, hb43⟩
          have hz43 := hb43.size
          (try simp at hz43)
          have h0_43 : w43.cell? ⟨w.heap.size, 0, none⟩ = some (.int .u32 (h.s : Int)) := cell_on hb43 h0_42
          have h1_43 : w43.cell? ⟨w.heap.size, 1, none⟩ = some (.int .u32 (h.d : Int)) := cell_on hb43 h1_42
          have h2_43 : w43.cell? ⟨w.heap.size, 2, none⟩ = some (.int .u16 (h.p : Int)) := cell_on hb43 h2_42
          have h3_43 : w43.cell? ⟨w.heap.size, 3, none⟩ = some (.int .u16 (h.q : Int)) := cell_on hb43 h3_42
          have h4_43 : w43.cell? ⟨w.heap.size, 4, none⟩ = some (.int .u8 (h.r : Int)) := cell_on hb43 h4_42
          have x0_43 : w43.cell? ⟨w.heap.size + 1, 0, none⟩ = some (.int .u32 (x.s : Int)) := cell_on hb43 x0_42
          have x1_43 : w43.cell? ⟨w.heap.size + 1, 1, none⟩ = some (.int .u32 (x.d : Int)) := cell_on hb43 x1_42
          have x2_43 : w43.cell? ⟨w.heap.size + 1, 2, none⟩ = some (.int .u16 (x.p : Int)) := cell_on hb43 x2_42
          have x3_43 : w43.cell? ⟨w.heap.size + 1, 3, none⟩ = some (.int .u16 (x.q : Int)) := cell_on hb43 x3_42
          have x4_43 : w43.cell? ⟨w.heap.size + 1, 4, none⟩ = some (.int .u8 (x.r : Int)) := cell_on hb43 x4_42
          have n0_43 : w43.cell? ⟨w1.heap.size, 0, none⟩ = some (.int .u32 (nx.s : Int)) := cell_on hb43 n0_42
          have n1_43 : w43.cell? ⟨w1.heap.size, 1, none⟩ = some (.int .u32 (nx.d : Int)) := cell_on hb43 n1_42
          have n2_43 : w43.cell? ⟨w1.heap.size, 2, none⟩ = some (.int .u16 (nx.p : Int)) := cell_on hb43 n2_42
          have n3_43 : w43.cell? ⟨w1.heap.size, 3, none⟩ = some (.int .u16 (nx.q : Int)) := cell_on hb43 n3_42
          have n4_43 : w43.cell? ⟨w1.heap.size, 4, none⟩ = some (.int .u8 (nx.r : Int)) := cell_on hb43 n4_42
          have hg43_0 : w.heap.size < w43.heap.size := by omega
          have hg43_1 : w.heap.size + 1 < w43.heap.size := by omega
          have hg43_2 : w1.heap.size < w43.heap.size := by omega
          have hl43 : w.heap.size ≤ w43.heap.size := by omega
          have hw43 : Hid (Below w.heap.size w w43) := hw42.out.trans (hb43.mono (by first | omega | (simp; done) | (simp; omega)))
          clear hb43 h0_42 h1_42 h2_42 h3_42 h4_42 x0_42 x1_42 x2_42 x3_42 x4_42 n0_42 n1_42 n2_42 n3_42 n4_42 hg42_0 hg42_1 hg42_2 hw42
          go_wp2_with (fail)
          go_ret
          exact ⟨ret_same (by simp), hw43.out⟩
end Go.Proofs.Ytpgadbiohmofeab
