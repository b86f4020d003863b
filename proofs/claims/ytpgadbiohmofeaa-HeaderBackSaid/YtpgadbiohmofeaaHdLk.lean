/-
  HeaderBack, out of what the functions of header hand back.
-/
import Derived.Test.YtpgadbiohmofeaaHdAw
namespace Go.Proofs.Ytpgadbiohmofeaa
open Go.RowKit
set_option linter.unusedVariables false
set_option linter.unusedSimpArgs false

set_option maxHeartbeats 1000000 in
theorem headerBack_core (hP : PackC) (hUn : UnpN) (hUc : UnpC) (hA : ∀ w : World, Calls Try.prog 9 #[] w fun e w' => e = .returned (.bool true) ∧ Below w.heap.size w w') (h : Hd) (o : OkH h) (l : List Nat) (vb : Value) (w : World) (hs : SrcB w vb l) (hl : l.length ≤ 9223372036854775807) (hbd : BdB l) :
    Calls Try.prog 8 #[.agg #[.int .u32 (h.s : Int), .int .u32 (h.d : Int), .int .u16 (h.p : Int), .int .u16 (h.q : Int), .int .u8 (h.r : Int)], vb] w fun e w' => e = .returned (.bool true) ∧ Below w.heap.size w w' := by
  obtain ⟨ad, cap, rfl⟩ := hs.form
  have HS : Hid (SrcB w (.slice ad l.length cap) l) := hs
  clear hs
  by_cases hm : 16777216 < l.length
  · have hm' : (16777216 : Int) < (l.length : Int) := by omega
    clear hm
    go_enter Try.func8, Try.ntmps8
    go_wp2_with (fail)
    refine (hA _).mono ?_
    rintro e w1 ⟨rfl, hb1⟩
    have hw1 : Hid (Below w.heap.size w w1) := ((Below.refl _ _).alloc (Nat.le_refl _) _).trans (hb1.mono (by simp))
    clear hb1
    go_wp2
    go_ret
    exact ⟨rfl, hw1.out⟩
  · have hm' : ¬ (16777216 : Int) < (l.length : Int) := by omega
    have hm2 : (l.length : Int) ≤ 16777216 := by omega
    have k1 := fun W => hP h W o
    have k2 : ∀ v W, SrcB W v (bytesH h) → Calls Try.prog 10 #[v] W fun e w' => e = .returned (.tuple #[.agg #[.int .u32 (h.s : Int), .int .u32 (h.d : Int), .int .u16 (h.p : Int), .int .u16 (h.q : Int), .int .u8 (h.r : Int)], .int .i64 0]) ∧ Below W.heap.size W w' := fun v W hW => by
      have := hUc (bytesH h) v W hW (bytesH_length h) (bytesH_bd h)
      rw [hdB_bytes o] at this
      exact this
    by_cases h13 : l.length = 13
    · have k3 := fun W (hW : SrcB W (.slice ad l.length cap) l) => hUc l _ W hW h13 hbd
      have k4 := fun W => hP (hdB l) W (okH_hdB h13 hbd)
      rw [bytes_hdB h13 hbd] at k4
      have k5 := fun v u W h1 h2 => sameB l (by omega) v u W h1 h2
      have hlI : (l.length : Int) = 13 := by omega
      generalize hdB l = v at *
      clear hP hUn hUc hbd hm h13
      go_enter Try.func8, Try.ntmps8
      go_wp2_with (fail)
      refine (k1 _).mono ?_
      rintro e w1 ⟨vp, rfl, rp, hb1⟩
      have hz1 := hb1.size
      (try simp at hz1)
      have p_1 : Hid (RowB w1 w.heap.size vp (bytesH h)) := rp.base (by first | omega | (simp; done) | (simp; omega))
      clear rp
      have h0_1 : w1.cell? ⟨w.heap.size, 0, none⟩ = some (.int .u32 (h.s : Int)) := cell_on hb1 (show (w.alloc (.cells #[.int .u32 (h.s : Int), .int .u32 (h.d : Int), .int .u16 (h.p : Int), .int .u16 (h.q : Int), .int .u8 (h.r : Int)] 25)).cell? ⟨w.heap.size, 0, none⟩ = some (.int .u32 (h.s : Int)) from by simp [go_sem])
      have h1_1 : w1.cell? ⟨w.heap.size, 1, none⟩ = some (.int .u32 (h.d : Int)) := cell_on hb1 (show (w.alloc (.cells #[.int .u32 (h.s : Int), .int .u32 (h.d : Int), .int .u16 (h.p : Int), .int .u16 (h.q : Int), .int .u8 (h.r : Int)] 25)).cell? ⟨w.heap.size, 1, none⟩ = some (.int .u32 (h.d : Int)) from by simp [go_sem])
      have h2_1 : w1.cell? ⟨w.heap.size, 2, none⟩ = some (.int .u16 (h.p : Int)) := cell_on hb1 (show (w.alloc (.cells #[.int .u32 (h.s : Int), .int .u32 (h.d : Int), .int .u16 (h.p : Int), .int .u16 (h.q : Int), .int .u8 (h.r : Int)] 25)).cell? ⟨w.heap.size, 2, none⟩ = some (.int .u16 (h.p : Int)) from by simp [go_sem])
      have h3_1 : w1.cell? ⟨w.heap.size, 3, none⟩ = some (.int .u16 (h.q : Int)) := cell_on hb1 (show (w.alloc (.cells #[.int .u32 (h.s : Int), .int .u32 (h.d : Int), .int .u16 (h.p : Int), .int .u16 (h.q : Int), .int .u8 (h.r : Int)] 25)).cell? ⟨w.heap.size, 3, none⟩ = some (.int .u16 (h.q : Int)) from by simp [go_sem])
      have h4_1 : w1.cell? ⟨w.heap.size, 4, none⟩ = some (.int .u8 (h.r : Int)) := cell_on hb1 (show (w.alloc (.cells #[.int .u32 (h.s : Int), .int .u32 (h.d : Int), .int .u16 (h.p : Int), .int .u16 (h.q : Int), .int .u8 (h.r : Int)] 25)).cell? ⟨w.heap.size, 4, none⟩ = some (.int .u8 (h.r : Int)) from by simp [go_sem])
      have hg1_0 : w.heap.size < w1.heap.size := by omega
      have hl1 : w.heap.size ≤ w1.heap.size := by omega
      have hw1 : Hid (Below w.heap.size w w1) := ((Below.refl _ _).alloc (by first | omega | (simp; done) | (simp; omega)) _).trans (hb1.mono (by first | omega | (simp; done) | (simp; omega)))
      clear hb1
      obtain ⟨ad1, cap1, hv1, hc1, _⟩ := p_1.out.form
      have hps := p_1.out.src
      rw [bytesH_length] at hv1
      subst hv1
      clear p_1 hc1
      go_wp2_with (fail)
      refine (k2 _ _ hps).mono ?_
      rintro e w2 ⟨rfl, hb2⟩
      have hz2 := hb2.size
      (try simp at hz2)
      have h0_2 : w2.cell? ⟨w.heap.size, 0, none⟩ = some (.int .u32 (h.s : Int)) := cell_on hb2 h0_1
      have h1_2 : w2.cell? ⟨w.heap.size, 1, none⟩ = some (.int .u32 (h.d : Int)) := cell_on hb2 h1_1
      have h2_2 : w2.cell? ⟨w.heap.size, 2, none⟩ = some (.int .u16 (h.p : Int)) := cell_on hb2 h2_1
      have h3_2 : w2.cell? ⟨w.heap.size, 3, none⟩ = some (.int .u16 (h.q : Int)) := cell_on hb2 h3_1
      have h4_2 : w2.cell? ⟨w.heap.size, 4, none⟩ = some (.int .u8 (h.r : Int)) := cell_on hb2 h4_1
      have hg2_0 : w.heap.size < w2.heap.size := by omega
      have hl2 : w.heap.size ≤ w2.heap.size := by omega
      have hw2 : Hid (Below w.heap.size w w2) := hw1.out.trans (hb2.mono (by first | omega | (simp; done) | (simp; omega)))
      clear hb2 h0_1 h1_1 h2_1 h3_1 h4_1 hg1_0 hw1
      clear hps
      go_wp2_with (fail)
      refine (k3 _ (HS.out.keep (hw2.out.alloc (by first | omega | (simp; done) | (simp; omega)) _))).mono ?_
      rintro e w3 ⟨rfl, hb3⟩
      have hz3 := hb3.size
      (try simp at hz3)
      have h0_3 : w3.cell? ⟨w.heap.size, 0, none⟩ = some (.int .u32 (h.s : Int)) := cell_on hb3 (cell_alloc h0_2)
      have h1_3 : w3.cell? ⟨w.heap.size, 1, none⟩ = some (.int .u32 (h.d : Int)) := cell_on hb3 (cell_alloc h1_2)
      have h2_3 : w3.cell? ⟨w.heap.size, 2, none⟩ = some (.int .u16 (h.p : Int)) := cell_on hb3 (cell_alloc h2_2)
      have h3_3 : w3.cell? ⟨w.heap.size, 3, none⟩ = some (.int .u16 (h.q : Int)) := cell_on hb3 (cell_alloc h3_2)
      have h4_3 : w3.cell? ⟨w.heap.size, 4, none⟩ = some (.int .u8 (h.r : Int)) := cell_on hb3 (cell_alloc h4_2)
      have u0_3 : w3.cell? ⟨w2.heap.size, 0, none⟩ = some (.int .u32 (h.s : Int)) := cell_on hb3 (show (w2.alloc (.cells #[.int .u32 (h.s : Int), .int .u32 (h.d : Int), .int .u16 (h.p : Int), .int .u16 (h.q : Int), .int .u8 (h.r : Int)] 25)).cell? ⟨w2.heap.size, 0, none⟩ = some (.int .u32 (h.s : Int)) from by simp [go_sem])
      have u1_3 : w3.cell? ⟨w2.heap.size, 1, none⟩ = some (.int .u32 (h.d : Int)) := cell_on hb3 (show (w2.alloc (.cells #[.int .u32 (h.s : Int), .int .u32 (h.d : Int), .int .u16 (h.p : Int), .int .u16 (h.q : Int), .int .u8 (h.r : Int)] 25)).cell? ⟨w2.heap.size, 1, none⟩ = some (.int .u32 (h.d : Int)) from by simp [go_sem])
      have u2_3 : w3.cell? ⟨w2.heap.size, 2, none⟩ = some (.int .u16 (h.p : Int)) := cell_on hb3 (show (w2.alloc (.cells #[.int .u32 (h.s : Int), .int .u32 (h.d : Int), .int .u16 (h.p : Int), .int .u16 (h.q : Int), .int .u8 (h.r : Int)] 25)).cell? ⟨w2.heap.size, 2, none⟩ = some (.int .u16 (h.p : Int)) from by simp [go_sem])
      have u3_3 : w3.cell? ⟨w2.heap.size, 3, none⟩ = some (.int .u16 (h.q : Int)) := cell_on hb3 (show (w2.alloc (.cells #[.int .u32 (h.s : Int), .int .u32 (h.d : Int), .int .u16 (h.p : Int), .int .u16 (h.q : Int), .int .u8 (h.r : Int)] 25)).cell? ⟨w2.heap.size, 3, none⟩ = some (.int .u16 (h.q : Int)) from by simp [go_sem])
      have u4_3 : w3.cell? ⟨w2.heap.size, 4, none⟩ = some (.int .u8 (h.r : Int)) := cell_on hb3 (show (w2.alloc (.cells #[.int .u32 (h.s : Int), .int .u32 (h.d : Int), .int .u16 (h.p : Int), .int .u16 (h.q : Int), .int .u8 (h.r : Int)] 25)).cell? ⟨w2.heap.size, 4, none⟩ = some (.int .u8 (h.r : Int)) from by simp [go_sem])
      have hg3_0 : w.heap.size < w3.heap.size := by omega
      have hg3_1 : w2.heap.size < w3.heap.size := by omega
      have hl3 : w.heap.size ≤ w3.heap.size := by omega
      have hw3 : Hid (Below w.heap.size w w3) := (hw2.out.alloc (by first | omega | (simp; done) | (simp; omega)) _).trans (hb3.mono (by first | omega | (simp; done) | (simp; omega)))
      clear hb3 h0_2 h1_2 h2_2 h3_2 h4_2 hg2_0 hw2
      go_wp2_with (fail)
      refine (k4 _).mono ?_
      rintro e w4 ⟨vr, rfl, rr, hb4⟩
      have hz4 := hb4.size
      (try simp at hz4)
      have r_4 : Hid (RowB w4 w.heap.size vr (l)) := rr.base (by first | omega | (simp; done) | (simp; omega))
      clear rr
      have h0_4 : w4.cell? ⟨w.heap.size, 0, none⟩ = some (.int .u32 (h.s : Int)) := cell_on hb4 (cell_alloc h0_3)
      have h1_4 : w4.cell? ⟨w.heap.size, 1, none⟩ = some (.int .u32 (h.d : Int)) := cell_on hb4 (cell_alloc h1_3)
      have h2_4 : w4.cell? ⟨w.heap.size, 2, none⟩ = some (.int .u16 (h.p : Int)) := cell_on hb4 (cell_alloc h2_3)
      have h3_4 : w4.cell? ⟨w.heap.size, 3, none⟩ = some (.int .u16 (h.q : Int)) := cell_on hb4 (cell_alloc h3_3)
      have h4_4 : w4.cell? ⟨w.heap.size, 4, none⟩ = some (.int .u8 (h.r : Int)) := cell_on hb4 (cell_alloc h4_3)
      have u0_4 : w4.cell? ⟨w2.heap.size, 0, none⟩ = some (.int .u32 (h.s : Int)) := cell_on hb4 (cell_alloc u0_3)
      have u1_4 : w4.cell? ⟨w2.heap.size, 1, none⟩ = some (.int .u32 (h.d : Int)) := cell_on hb4 (cell_alloc u1_3)
      have u2_4 : w4.cell? ⟨w2.heap.size, 2, none⟩ = some (.int .u16 (h.p : Int)) := cell_on hb4 (cell_alloc u2_3)
      have u3_4 : w4.cell? ⟨w2.heap.size, 3, none⟩ = some (.int .u16 (h.q : Int)) := cell_on hb4 (cell_alloc u3_3)
      have u4_4 : w4.cell? ⟨w2.heap.size, 4, none⟩ = some (.int .u8 (h.r : Int)) := cell_on hb4 (cell_alloc u4_3)
      have v0_4 : w4.cell? ⟨w3.heap.size, 0, none⟩ = some (.int .u32 (v.s : Int)) := cell_on hb4 (show (w3.alloc (.cells #[.int .u32 (v.s : Int), .int .u32 (v.d : Int), .int .u16 (v.p : Int), .int .u16 (v.q : Int), .int .u8 (v.r : Int)] 25)).cell? ⟨w3.heap.size, 0, none⟩ = some (.int .u32 (v.s : Int)) from by simp [go_sem])
      have v1_4 : w4.cell? ⟨w3.heap.size, 1, none⟩ = some (.int .u32 (v.d : Int)) := cell_on hb4 (show (w3.alloc (.cells #[.int .u32 (v.s : Int), .int .u32 (v.d : Int), .int .u16 (v.p : Int), .int .u16 (v.q : Int), .int .u8 (v.r : Int)] 25)).cell? ⟨w3.heap.size, 1, none⟩ = some (.int .u32 (v.d : Int)) from by simp [go_sem])
      have v2_4 : w4.cell? ⟨w3.heap.size, 2, none⟩ = some (.int .u16 (v.p : Int)) := cell_on hb4 (show (w3.alloc (.cells #[.int .u32 (v.s : Int), .int .u32 (v.d : Int), .int .u16 (v.p : Int), .int .u16 (v.q : Int), .int .u8 (v.r : Int)] 25)).cell? ⟨w3.heap.size, 2, none⟩ = some (.int .u16 (v.p : Int)) from by simp [go_sem])
      have v3_4 : w4.cell? ⟨w3.heap.size, 3, none⟩ = some (.int .u16 (v.q : Int)) := cell_on hb4 (show (w3.alloc (.cells #[.int .u32 (v.s : Int), .int .u32 (v.d : Int), .int .u16 (v.p : Int), .int .u16 (v.q : Int), .int .u8 (v.r : Int)] 25)).cell? ⟨w3.heap.size, 3, none⟩ = some (.int .u16 (v.q : Int)) from by simp [go_sem])
      have v4_4 : w4.cell? ⟨w3.heap.size, 4, none⟩ = some (.int .u8 (v.r : Int)) := cell_on hb4 (show (w3.alloc (.cells #[.int .u32 (v.s : Int), .int .u32 (v.d : Int), .int .u16 (v.p : Int), .int .u16 (v.q : Int), .int .u8 (v.r : Int)] 25)).cell? ⟨w3.heap.size, 4, none⟩ = some (.int .u8 (v.r : Int)) from by simp [go_sem])
      have hg4_0 : w.heap.size < w4.heap.size := by omega
      have hg4_1 : w2.heap.size < w4.heap.size := by omega
      have hg4_2 : w3.heap.size < w4.heap.size := by omega
      have hl4 : w.heap.size ≤ w4.heap.size := by omega
      have hw4 : Hid (Below w.heap.size w w4) := (hw3.out.alloc (by first | omega | (simp; done) | (simp; omega)) _).trans (hb4.mono (by first | omega | (simp; done) | (simp; omega)))
      clear hb4 h0_3 h1_3 h2_3 h3_3 h4_3 u0_3 u1_3 u2_3 u3_3 u4_3 hg3_0 hg3_1 hw3
      have hrs := r_4.out.src
      obtain ⟨ad2, cap2, rfl, _, _⟩ := r_4.out.form
      clear r_4
      go_wp2_with (fail)
      refine (k5 _ _ _ hrs (HS.out.keep hw4.out)).mono ?_
      rintro e w5 ⟨rfl, hb5⟩
      have hz5 := hb5.size
      (try simp at hz5)
      have h0_5 : w5.cell? ⟨w.heap.size, 0, none⟩ = some (.int .u32 (h.s : Int)) := cell_on hb5 h0_4
      have h1_5 : w5.cell? ⟨w.heap.size, 1, none⟩ = some (.int .u32 (h.d : Int)) := cell_on hb5 h1_4
      have h2_5 : w5.cell? ⟨w.heap.size, 2, none⟩ = some (.int .u16 (h.p : Int)) := cell_on hb5 h2_4
      have h3_5 : w5.cell? ⟨w.heap.size, 3, none⟩ = some (.int .u16 (h.q : Int)) := cell_on hb5 h3_4
      have h4_5 : w5.cell? ⟨w.heap.size, 4, none⟩ = some (.int .u8 (h.r : Int)) := cell_on hb5 h4_4
      have u0_5 : w5.cell? ⟨w2.heap.size, 0, none⟩ = some (.int .u32 (h.s : Int)) := cell_on hb5 u0_4
      have u1_5 : w5.cell? ⟨w2.heap.size, 1, none⟩ = some (.int .u32 (h.d : Int)) := cell_on hb5 u1_4
      have u2_5 : w5.cell? ⟨w2.heap.size, 2, none⟩ = some (.int .u16 (h.p : Int)) := cell_on hb5 u2_4
      have u3_5 : w5.cell? ⟨w2.heap.size, 3, none⟩ = some (.int .u16 (h.q : Int)) := cell_on hb5 u3_4
      have u4_5 : w5.cell? ⟨w2.heap.size, 4, none⟩ = some (.int .u8 (h.r : Int)) := cell_on hb5 u4_4
      have v0_5 : w5.cell? ⟨w3.heap.size, 0, none⟩ = some (.int .u32 (v.s : Int)) := cell_on hb5 v0_4
      have v1_5 : w5.cell? ⟨w3.heap.size, 1, none⟩ = some (.int .u32 (v.d : Int)) := cell_on hb5 v1_4
      have v2_5 : w5.cell? ⟨w3.heap.size, 2, none⟩ = some (.int .u16 (v.p : Int)) := cell_on hb5 v2_4
      have v3_5 : w5.cell? ⟨w3.heap.size, 3, none⟩ = some (.int .u16 (v.q : Int)) := cell_on hb5 v3_4
      have v4_5 : w5.cell? ⟨w3.heap.size, 4, none⟩ = some (.int .u8 (v.r : Int)) := cell_on hb5 v4_4
      have hg5_0 : w.heap.size < w5.heap.size := by omega
      have hg5_1 : w2.heap.size < w5.heap.size := by omega
      have hg5_2 : w3.heap.size < w5.heap.size := by omega
      have hl5 : w.heap.size ≤ w5.heap.size := by omega
      have hw5 : Hid (Below w.heap.size w w5) := hw4.out.trans (hb5.mono (by first | omega | (simp; done) | (simp; omega)))
      clear hb5 h0_4 h1_4 h2_4 h3_4 h4_4 u0_4 u1_4 u2_4 u3_4 u4_4 v0_4 v1_4 v2_4 v3_4 v4_4 hg4_0 hg4_1 hg4_2 hw4
      clear hrs
      go_wp2_with (fail)
      refine (hA _).mono ?_
      rintro e w6 ⟨rfl, hb6⟩
      have hz6 := hb6.size
      (try simp at hz6)
      have h0_6 : w6.cell? ⟨w.heap.size, 0, none⟩ = some (.int .u32 (h.s : Int)) := cell_on hb6 h0_5
      have h1_6 : w6.cell? ⟨w.heap.size, 1, none⟩ = some (.int .u32 (h.d : Int)) := cell_on hb6 h1_5
      have h2_6 : w6.cell? ⟨w.heap.size, 2, none⟩ = some (.int .u16 (h.p : Int)) := cell_on hb6 h2_5
      have h3_6 : w6.cell? ⟨w.heap.size, 3, none⟩ = some (.int .u16 (h.q : Int)) := cell_on hb6 h3_5
      have h4_6 : w6.cell? ⟨w.heap.size, 4, none⟩ = some (.int .u8 (h.r : Int)) := cell_on hb6 h4_5
      have u0_6 : w6.cell? ⟨w2.heap.size, 0, none⟩ = some (.int .u32 (h.s : Int)) := cell_on hb6 u0_5
      have u1_6 : w6.cell? ⟨w2.heap.size, 1, none⟩ = some (.int .u32 (h.d : Int)) := cell_on hb6 u1_5
      have u2_6 : w6.cell? ⟨w2.heap.size, 2, none⟩ = some (.int .u16 (h.p : Int)) := cell_on hb6 u2_5
      have u3_6 : w6.cell? ⟨w2.heap.size, 3, none⟩ = some (.int .u16 (h.q : Int)) := cell_on hb6 u3_5
      have u4_6 : w6.cell? ⟨w2.heap.size, 4, none⟩ = some (.int .u8 (h.r : Int)) := cell_on hb6 u4_5
      have v0_6 : w6.cell? ⟨w3.heap.size, 0, none⟩ = some (.int .u32 (v.s : Int)) := cell_on hb6 v0_5
      have v1_6 : w6.cell? ⟨w3.heap.size, 1, none⟩ = some (.int .u32 (v.d : Int)) := cell_on hb6 v1_5
      have v2_6 : w6.cell? ⟨w3.heap.size, 2, none⟩ = some (.int .u16 (v.p : Int)) := cell_on hb6 v2_5
      have v3_6 : w6.cell? ⟨w3.heap.size, 3, none⟩ = some (.int .u16 (v.q : Int)) := cell_on hb6 v3_5
      have v4_6 : w6.cell? ⟨w3.heap.size, 4, none⟩ = some (.int .u8 (v.r : Int)) := cell_on hb6 v4_5
      have hg6_0 : w.heap.size < w6.heap.size := by omega
      have hg6_1 : w2.heap.size < w6.heap.size := by omega
      have hg6_2 : w3.heap.size < w6.heap.size := by omega
      have hl6 : w.heap.size ≤ w6.heap.size := by omega
      have hw6 : Hid (Below w.heap.size w w6) := hw5.out.trans (hb6.mono (by first | omega | (simp; done) | (simp; omega)))
      clear hb6 h0_5 h1_5 h2_5 h3_5 h4_5 u0_5 u1_5 u2_5 u3_5 u4_5 v0_5 v1_5 v2_5 v3_5 v4_5 hg5_0 hg5_1 hg5_2 hw5
      go_wp2
      go_ret
      exact ⟨rfl, hw6.out⟩
    · have k3 := fun W (hW : SrcB W (.slice ad l.length cap) l) => hUn l _ W hW h13 (by omega)
      have hne : ((l.length : Int) == 13) = false := by rw [beq_eq_false_iff_ne]; omega
      have hne2 : ¬ (l.length : Int) = 13 := by omega
      have hne3 : ¬ l.length = 13 := h13
      generalize h0 = v at *
      clear hP hUn hUc hbd hm h13
      go_enter Try.func8, Try.ntmps8
      go_wp2_with (fail)
      refine (k1 _).mono ?_
      rintro e w1 ⟨vp, rfl, rp, hb1⟩
      have hz1 := hb1.size
      (try simp at hz1)
      have p_1 : Hid (RowB w1 w.heap.size vp (bytesH h)) := rp.base (by first | omega | (simp; done) | (simp; omega))
      clear rp
      have h0_1 : w1.cell? ⟨w.heap.size, 0, none⟩ = some (.int .u32 (h.s : Int)) := cell_on hb1 (show (w.alloc (.cells #[.int .u32 (h.s : Int), .int .u32 (h.d : Int), .int .u16 (h.p : Int), .int .u16 (h.q : Int), .int .u8 (h.r : Int)] 25)).cell? ⟨w.heap.size, 0, none⟩ = some (.int .u32 (h.s : Int)) from by simp [go_sem])
      have h1_1 : w1.cell? ⟨w.heap.size, 1, none⟩ = some (.int .u32 (h.d : Int)) := cell_on hb1 (show (w.alloc (.cells #[.int .u32 (h.s : Int), .int .u32 (h.d : Int), .int .u16 (h.p : Int), .int .u16 (h.q : Int), .int .u8 (h.r : Int)] 25)).cell? ⟨w.heap.size, 1, none⟩ = some (.int .u32 (h.d : Int)) from by simp [go_sem])
      have h2_1 : w1.cell? ⟨w.heap.size, 2, none⟩ = some (.int .u16 (h.p : Int)) := cell_on hb1 (show (w.alloc (.cells #[.int .u32 (h.s : Int), .int .u32 (h.d : Int), .int .u16 (h.p : Int), .int .u16 (h.q : Int), .int .u8 (h.r : Int)] 25)).cell? ⟨w.heap.size, 2, none⟩ = some (.int .u16 (h.p : Int)) from by simp [go_sem])
      have h3_1 : w1.cell? ⟨w.heap.size, 3, none⟩ = some (.int .u16 (h.q : Int)) := cell_on hb1 (show (w.alloc (.cells #[.int .u32 (h.s : Int), .int .u32 (h.d : Int), .int .u16 (h.p : Int), .int .u16 (h.q : Int), .int .u8 (h.r : Int)] 25)).cell? ⟨w.heap.size, 3, none⟩ = some (.int .u16 (h.q : Int)) from by simp [go_sem])
      have h4_1 : w1.cell? ⟨w.heap.size, 4, none⟩ = some (.int .u8 (h.r : Int)) := cell_on hb1 (show (w.alloc (.cells #[.int .u32 (h.s : Int), .int .u32 (h.d : Int), .int .u16 (h.p : Int), .int .u16 (h.q : Int), .int .u8 (h.r : Int)] 25)).cell? ⟨w.heap.size, 4, none⟩ = some (.int .u8 (h.r : Int)) from by simp [go_sem])
      have hg1_0 : w.heap.size < w1.heap.size := by omega
      have hl1 : w.heap.size ≤ w1.heap.size := by omega
      have hw1 : Hid (Below w.heap.size w w1) := ((Below.refl _ _).alloc (by first | omega | (simp; done) | (simp; omega)) _).trans (hb1.mono (by first | omega | (simp; done) | (simp; omega)))
      clear hb1
      obtain ⟨ad1, cap1, hv1, hc1, _⟩ := p_1.out.form
      have hps := p_1.out.src
      rw [bytesH_length] at hv1
      subst hv1
      clear p_1 hc1
      go_wp2_with (fail)
      refine (k2 _ _ hps).mono ?_
      rintro e w2 ⟨rfl, hb2⟩
      have hz2 := hb2.size
      (try simp at hz2)
      have h0_2 : w2.cell? ⟨w.heap.size, 0, none⟩ = some (.int .u32 (h.s : Int)) := cell_on hb2 h0_1
      have h1_2 : w2.cell? ⟨w.heap.size, 1, none⟩ = some (.int .u32 (h.d : Int)) := cell_on hb2 h1_1
      have h2_2 : w2.cell? ⟨w.heap.size, 2, none⟩ = some (.int .u16 (h.p : Int)) := cell_on hb2 h2_1
      have h3_2 : w2.cell? ⟨w.heap.size, 3, none⟩ = some (.int .u16 (h.q : Int)) := cell_on hb2 h3_1
      have h4_2 : w2.cell? ⟨w.heap.size, 4, none⟩ = some (.int .u8 (h.r : Int)) := cell_on hb2 h4_1
      have hg2_0 : w.heap.size < w2.heap.size := by omega
      have hl2 : w.heap.size ≤ w2.heap.size := by omega
      have hw2 : Hid (Below w.heap.size w w2) := hw1.out.trans (hb2.mono (by first | omega | (simp; done) | (simp; omega)))
      clear hb2 h0_1 h1_1 h2_1 h3_1 h4_1 hg1_0 hw1
      clear hps
      go_wp2_with (fail)
      refine (k3 _ (HS.out.keep (hw2.out.alloc (by first | omega | (simp; done) | (simp; omega)) _))).mono ?_
      rintro e w3 ⟨rfl, hb3⟩
      have hz3 := hb3.size
      (try simp at hz3)
      have h0_3 : w3.cell? ⟨w.heap.size, 0, none⟩ = some (.int .u32 (h.s : Int)) := cell_on hb3 (cell_alloc h0_2)
      have h1_3 : w3.cell? ⟨w.heap.size, 1, none⟩ = some (.int .u32 (h.d : Int)) := cell_on hb3 (cell_alloc h1_2)
      have h2_3 : w3.cell? ⟨w.heap.size, 2, none⟩ = some (.int .u16 (h.p : Int)) := cell_on hb3 (cell_alloc h2_2)
      have h3_3 : w3.cell? ⟨w.heap.size, 3, none⟩ = some (.int .u16 (h.q : Int)) := cell_on hb3 (cell_alloc h3_2)
      have h4_3 : w3.cell? ⟨w.heap.size, 4, none⟩ = some (.int .u8 (h.r : Int)) := cell_on hb3 (cell_alloc h4_2)
      have u0_3 : w3.cell? ⟨w2.heap.size, 0, none⟩ = some (.int .u32 (h.s : Int)) := cell_on hb3 (show (w2.alloc (.cells #[.int .u32 (h.s : Int), .int .u32 (h.d : Int), .int .u16 (h.p : Int), .int .u16 (h.q : Int), .int .u8 (h.r : Int)] 25)).cell? ⟨w2.heap.size, 0, none⟩ = some (.int .u32 (h.s : Int)) from by simp [go_sem])
      have u1_3 : w3.cell? ⟨w2.heap.size, 1, none⟩ = some (.int .u32 (h.d : Int)) := cell_on hb3 (show (w2.alloc (.cells #[.int .u32 (h.s : Int), .int .u32 (h.d : Int), .int .u16 (h.p : Int), .int .u16 (h.q : Int), .int .u8 (h.r : Int)] 25)).cell? ⟨w2.heap.size, 1, none⟩ = some (.int .u32 (h.d : Int)) from by simp [go_sem])
      have u2_3 : w3.cell? ⟨w2.heap.size, 2, none⟩ = some (.int .u16 (h.p : Int)) := cell_on hb3 (show (w2.alloc (.cells #[.int .u32 (h.s : Int), .int .u32 (h.d : Int), .int .u16 (h.p : Int), .int .u16 (h.q : Int), .int .u8 (h.r : Int)] 25)).cell? ⟨w2.heap.size, 2, none⟩ = some (.int .u16 (h.p : Int)) from by simp [go_sem])
      have u3_3 : w3.cell? ⟨w2.heap.size, 3, none⟩ = some (.int .u16 (h.q : Int)) := cell_on hb3 (show (w2.alloc (.cells #[.int .u32 (h.s : Int), .int .u32 (h.d : Int), .int .u16 (h.p : Int), .int .u16 (h.q : Int), .int .u8 (h.r : Int)] 25)).cell? ⟨w2.heap.size, 3, none⟩ = some (.int .u16 (h.q : Int)) from by simp [go_sem])
      have u4_3 : w3.cell? ⟨w2.heap.size, 4, none⟩ = some (.int .u8 (h.r : Int)) := cell_on hb3 (show (w2.alloc (.cells #[.int .u32 (h.s : Int), .int .u32 (h.d : Int), .int .u16 (h.p : Int), .int .u16 (h.q : Int), .int .u8 (h.r : Int)] 25)).cell? ⟨w2.heap.size, 4, none⟩ = some (.int .u8 (h.r : Int)) from by simp [go_sem])
      have hg3_0 : w.heap.size < w3.heap.size := by omega
      have hg3_1 : w2.heap.size < w3.heap.size := by omega
      have hl3 : w.heap.size ≤ w3.heap.size := by omega
      have hw3 : Hid (Below w.heap.size w w3) := (hw2.out.alloc (by first | omega | (simp; done) | (simp; omega)) _).trans (hb3.mono (by first | omega | (simp; done) | (simp; omega)))
      clear hb3 h0_2 h1_2 h2_2 h3_2 h4_2 hg2_0 hw2
      go_wp2_with (fail)
      refine (hA _).mono ?_
      rintro e w4 ⟨rfl, hb4⟩
      have hz4 := hb4.size
      (try simp at hz4)
      have h0_4 : w4.cell? ⟨w.heap.size, 0, none⟩ = some (.int .u32 (h.s : Int)) := cell_on hb4 (cell_alloc h0_3)
      have h1_4 : w4.cell? ⟨w.heap.size, 1, none⟩ = some (.int .u32 (h.d : Int)) := cell_on hb4 (cell_alloc h1_3)
      have h2_4 : w4.cell? ⟨w.heap.size, 2, none⟩ = some (.int .u16 (h.p : Int)) := cell_on hb4 (cell_alloc h2_3)
      have h3_4 : w4.cell? ⟨w.heap.size, 3, none⟩ = some (.int .u16 (h.q : Int)) := cell_on hb4 (cell_alloc h3_3)
      have h4_4 : w4.cell? ⟨w.heap.size, 4, none⟩ = some (.int .u8 (h.r : Int)) := cell_on hb4 (cell_alloc h4_3)
      have u0_4 : w4.cell? ⟨w2.heap.size, 0, none⟩ = some (.int .u32 (h.s : Int)) := cell_on hb4 (cell_alloc u0_3)
      have u1_4 : w4.cell? ⟨w2.heap.size, 1, none⟩ = some (.int .u32 (h.d : Int)) := cell_on hb4 (cell_alloc u1_3)
      have u2_4 : w4.cell? ⟨w2.heap.size, 2, none⟩ = some (.int .u16 (h.p : Int)) := cell_on hb4 (cell_alloc u2_3)
      have u3_4 : w4.cell? ⟨w2.heap.size, 3, none⟩ = some (.int .u16 (h.q : Int)) := cell_on hb4 (cell_alloc u3_3)
      have u4_4 : w4.cell? ⟨w2.heap.size, 4, none⟩ = some (.int .u8 (h.r : Int)) := cell_on hb4 (cell_alloc u4_3)
      have v0_4 : w4.cell? ⟨w3.heap.size, 0, none⟩ = some (.int .u32 (v.s : Int)) := cell_on hb4 (show (w3.alloc (.cells #[.int .u32 (v.s : Int), .int .u32 (v.d : Int), .int .u16 (v.p : Int), .int .u16 (v.q : Int), .int .u8 (v.r : Int)] 25)).cell? ⟨w3.heap.size, 0, none⟩ = some (.int .u32 (v.s : Int)) from by simp [go_sem])
      have v1_4 : w4.cell? ⟨w3.heap.size, 1, none⟩ = some (.int .u32 (v.d : Int)) := cell_on hb4 (show (w3.alloc (.cells #[.int .u32 (v.s : Int), .int .u32 (v.d : Int), .int .u16 (v.p : Int), .int .u16 (v.q : Int), .int .u8 (v.r : Int)] 25)).cell? ⟨w3.heap.size, 1, none⟩ = some (.int .u32 (v.d : Int)) from by simp [go_sem])
      have v2_4 : w4.cell? ⟨w3.heap.size, 2, none⟩ = some (.int .u16 (v.p : Int)) := cell_on hb4 (show (w3.alloc (.cells #[.int .u32 (v.s : Int), .int .u32 (v.d : Int), .int .u16 (v.p : Int), .int .u16 (v.q : Int), .int .u8 (v.r : Int)] 25)).cell? ⟨w3.heap.size, 2, none⟩ = some (.int .u16 (v.p : Int)) from by simp [go_sem])
      have v3_4 : w4.cell? ⟨w3.heap.size, 3, none⟩ = some (.int .u16 (v.q : Int)) := cell_on hb4 (show (w3.alloc (.cells #[.int .u32 (v.s : Int), .int .u32 (v.d : Int), .int .u16 (v.p : Int), .int .u16 (v.q : Int), .int .u8 (v.r : Int)] 25)).cell? ⟨w3.heap.size, 3, none⟩ = some (.int .u16 (v.q : Int)) from by simp [go_sem])
      have v4_4 : w4.cell? ⟨w3.heap.size, 4, none⟩ = some (.int .u8 (v.r : Int)) := cell_on hb4 (show (w3.alloc (.cells #[.int .u32 (v.s : Int), .int .u32 (v.d : Int), .int .u16 (v.p : Int), .int .u16 (v.q : Int), .int .u8 (v.r : Int)] 25)).cell? ⟨w3.heap.size, 4, none⟩ = some (.int .u8 (v.r : Int)) from by simp [go_sem])
      have hg4_0 : w.heap.size < w4.heap.size := by omega
      have hg4_1 : w2.heap.size < w4.heap.size := by omega
      have hg4_2 : w3.heap.size < w4.heap.size := by omega
      have hl4 : w.heap.size ≤ w4.heap.size := by omega
      have hw4 : Hid (Below w.heap.size w w4) := (hw3.out.alloc (by first | omega | (simp; done) | (simp; omega)) _).trans (hb4.mono (by first | omega | (simp; done) | (simp; omega)))
      clear hb4 h0_3 h1_3 h2_3 h3_3 h4_3 u0_3 u1_3 u2_3 u3_3 u4_3 hg3_0 hg3_1 hw3
      go_wp2
      go_ret
      exact ⟨rfl, hw4.out⟩
end Go.Proofs.Ytpgadbiohmofeaa
