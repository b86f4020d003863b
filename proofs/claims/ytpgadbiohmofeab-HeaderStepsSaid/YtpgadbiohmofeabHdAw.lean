/-
  The statements' own examples (awake), out of what the functions of header hand back. Written by tools/mkHdAw.py.
-/
import Derived.Test.YtpgadbiohmofeabHdK
namespace Go.Proofs.Ytpgadbiohmofeab
open Go.RowKit
set_option linter.unusedVariables false
set_option linter.unusedSimpArgs false

def xH : Hd := ⟨167772161, 3232235522, 1024, 80, 6⟩
def yH : Hd := ⟨167772161, 3232235522, 1024, 80, 7⟩
theorem ok_x : OkH xH := by unfold OkH xH; decide
theorem ok_y : OkH yH := by unfold OkH yH; decide
theorem bytes_x : bytesH xH = [10, 0, 0, 1, 192, 168, 0, 2, 4, 0, 0, 80, 6] := by decide +kernel
theorem hd_x : hdB [10, 0, 0, 1, 192, 168, 0, 2, 4, 0, 0, 80, 6] = xH := by decide +kernel
theorem nxt_x : nxt xH = yH := by decide +kernel
theorem has_x : hasN xH = true := by decide +kernel
theorem turn_x : turnH xH 103 = yH := by decide +kernel
theorem dif_xy : difH xH yH = 103 := by decide +kernel
theorem cmp_xy : cmpH xH yH = -1 := by decide +kernel
theorem bd_x : BdB [10, 0, 0, 1, 192, 168, 0, 2, 4, 0, 0, 80, 6] := by unfold BdB; decide
theorem pack_ex (h : PackC) (w : World) : Calls Try.prog 5 #[.agg #[.int .u32 167772161, .int .u32 3232235522, .int .u16 1024, .int .u16 80, .int .u8 6]] w fun e w' => ∃ v' : Value, e = .returned v' ∧ RowB w' w.heap.size v' [10, 0, 0, 1, 192, 168, 0, 2, 4, 0, 0, 80, 6] ∧ Below w.heap.size w w' := by
  rw [← bytes_x]; exact h xH w ok_x
theorem unp_ex (h : UnpC) (v : Value) (w : World) (hs : SrcB w v [10, 0, 0, 1, 192, 168, 0, 2, 4, 0, 0, 80, 6]) : Calls Try.prog 15 #[v] w fun e w' => e = .returned (.tuple #[.agg #[.int .u32 167772161, .int .u32 3232235522, .int .u16 1024, .int .u16 80, .int .u8 6], .int .i64 0]) ∧ Below w.heap.size w w' := by
  have := h _ v w hs rfl bd_x
  rw [hd_x] at this; exact this
theorem nxt_ex (h : NxtC) (w : World) : Calls Try.prog 11 #[.agg #[.int .u32 167772161, .int .u32 3232235522, .int .u16 1024, .int .u16 80, .int .u8 6]] w fun e w' => e = .returned (.tuple #[.agg #[.int .u32 167772161, .int .u32 3232235522, .int .u16 1024, .int .u16 80, .int .u8 7], .bool true]) ∧ Below w.heap.size w w' := by
  have := h xH w ok_x
  rw [nxt_x, has_x] at this; exact this
theorem of_ex (h : OfC) (v : Value) (w : World) (hs : SrcW w v [1, 2, 3, 4, 5]) : Calls Try.prog 16 #[v] w fun e w' => e = .returned (.tuple #[.agg #[.int .u32 1, .int .u32 2, .int .u16 3, .int .u16 4, .int .u8 5], .int .i64 0]) ∧ Below w.heap.size w w' :=
  h 1 2 3 4 5 v w hs (by decide) (by decide) (by decide) (by decide) (by decide)
theorem trn_ex (h : TrnC) (w : World) : Calls Try.prog 10 #[.agg #[.int .u32 167772161, .int .u32 3232235522, .int .u16 1024, .int .u16 80, .int .u8 6], .int .i64 103] w fun e w' => e = .returned (.tuple #[.agg #[.int .u32 167772161, .int .u32 3232235522, .int .u16 1024, .int .u16 80, .int .u8 7], .int .i64 0]) ∧ Below w.heap.size w w' := by
  have := h xH 103 w ok_x (by decide)
  rw [turn_x] at this; exact this
theorem dif_ex (h : DifC) (w : World) : Calls Try.prog 7 #[.agg #[.int .u32 167772161, .int .u32 3232235522, .int .u16 1024, .int .u16 80, .int .u8 6], .agg #[.int .u32 167772161, .int .u32 3232235522, .int .u16 1024, .int .u16 80, .int .u8 7]] w fun e w' => e = .returned (.int .i64 103) ∧ Below w.heap.size w w' := by
  have := h xH yH w ok_x ok_y
  rw [dif_xy] at this; exact this
theorem cmp_ex (h : CmpC) (w : World) : Calls Try.prog 6 #[.agg #[.int .u32 167772161, .int .u32 3232235522, .int .u16 1024, .int .u16 80, .int .u8 6], .agg #[.int .u32 167772161, .int .u32 3232235522, .int .u16 1024, .int .u16 80, .int .u8 7]] w fun e w' => e = .returned (.int .i64 (-1)) ∧ Below w.heap.size w w' := by
  have := h xH yH w ok_x ok_y
  rw [cmp_xy] at this; exact this
theorem srcW_lit (w : World) {B : Nat} (hB : B = w.heap.size) : SrcW (w.alloc (.cells #[.int .u32 1, .int .u32 2, .int .u32 3, .int .u32 4, .int .u32 5] 22)) (.slice (some ⟨B, 0, none⟩) 5 5) [1, 2, 3, 4, 5] := by
  subst hB
  refine ⟨_, 5, rfl, by decide, fun _ => ⟨w.heap.size, 0, rfl, fun k hk => ?_⟩⟩
  match k, hk with
  | 0, _ => simp [go_sem]
  | 1, _ => simp [go_sem]
  | 2, _ => simp [go_sem]
  | 3, _ => simp [go_sem]
  | 4, _ => simp [go_sem]
set_option maxHeartbeats 1000000 in
theorem awakeC (hPack : PackC) (hUnp : UnpC) (hNxt : NxtC) (hOf : OfC) (hTrn : TrnC) (hDif : DifC) (hCmp : CmpC) (w : World) : Calls Try.prog 8 #[] w fun e w' => e = .returned (.bool true) ∧ Below w.heap.size w w' := by
  have c1 := pack_ex hPack
  have c2 := fun v W h => unp_ex hUnp v W h
  have c3 := nxt_ex hNxt
  have c4 := fun v W h => of_ex hOf v W h
  have c5 := trn_ex hTrn
  have c6 := dif_ex hDif
  have c7 := cmp_ex hCmp
  clear hPack hUnp hNxt hOf hTrn hDif hCmp
  go_enter Try.func8, Try.ntmps8
  go_wp2_with (fail)
  refine (c1 _).mono ?_
  rintro e w1 ⟨vb, rfl, rb, hb1⟩
  have hz1 := hb1.size
  (try simp at hz1)
  have b_1 : Hid (RowB w1 w.heap.size vb ([10, 0, 0, 1, 192, 168, 0, 2, 4, 0, 0, 80, 6])) := rb.base (by first | omega | (simp; done) | (simp; omega))
  clear rb
  have h0_1 : w1.cell? ⟨w.heap.size, 0, none⟩ = some (.int .u32 167772161) := cell_on hb1 (show (w.alloc (.cells #[.int .u32 167772161, .int .u32 3232235522, .int .u16 1024, .int .u16 80, .int .u8 6] 25)).cell? ⟨w.heap.size, 0, none⟩ = some (.int .u32 167772161) from by simp [go_sem])
  have h1_1 : w1.cell? ⟨w.heap.size, 1, none⟩ = some (.int .u32 3232235522) := cell_on hb1 (show (w.alloc (.cells #[.int .u32 167772161, .int .u32 3232235522, .int .u16 1024, .int .u16 80, .int .u8 6] 25)).cell? ⟨w.heap.size, 1, none⟩ = some (.int .u32 3232235522) from by simp [go_sem])
  have h2_1 : w1.cell? ⟨w.heap.size, 2, none⟩ = some (.int .u16 1024) := cell_on hb1 (show (w.alloc (.cells #[.int .u32 167772161, .int .u32 3232235522, .int .u16 1024, .int .u16 80, .int .u8 6] 25)).cell? ⟨w.heap.size, 2, none⟩ = some (.int .u16 1024) from by simp [go_sem])
  have h3_1 : w1.cell? ⟨w.heap.size, 3, none⟩ = some (.int .u16 80) := cell_on hb1 (show (w.alloc (.cells #[.int .u32 167772161, .int .u32 3232235522, .int .u16 1024, .int .u16 80, .int .u8 6] 25)).cell? ⟨w.heap.size, 3, none⟩ = some (.int .u16 80) from by simp [go_sem])
  have h4_1 : w1.cell? ⟨w.heap.size, 4, none⟩ = some (.int .u8 6) := cell_on hb1 (show (w.alloc (.cells #[.int .u32 167772161, .int .u32 3232235522, .int .u16 1024, .int .u16 80, .int .u8 6] 25)).cell? ⟨w.heap.size, 4, none⟩ = some (.int .u8 6) from by simp [go_sem])
  have hg1_0 : w.heap.size < w1.heap.size := by omega
  have hl1 : w.heap.size ≤ w1.heap.size := by omega
  have hw1 : Hid (Below w.heap.size w w1) := ((Below.refl _ _).alloc (by first | omega | (simp; done) | (simp; omega)) _).trans (hb1.mono (by first | omega | (simp; done) | (simp; omega)))
  clear hb1
  obtain ⟨ad, cap, hv, hcap, hat⟩ := b_1.out.form
  simp only [List.length_cons, List.length_nil, Nat.zero_add, Nat.reduceAdd] at hv hcap hat
  subst hv
  obtain ⟨g, rfl, hg0, hg1, hbc⟩ := hat (by decide)
  have bc0_1 : w1.cell? ⟨g, 0, none⟩ = some (.int .u8 10) := hbc 0 (by decide)
  have bc8_1 : w1.cell? ⟨g, 8, none⟩ = some (.int .u8 4) := hbc 8 (by decide)
  have bc12_1 : w1.cell? ⟨g, 12, none⟩ = some (.int .u8 6) := hbc 12 (by decide)
  clear hat hbc
  go_wp2_with (fail)
  refine (c2 _ _ b_1.out.src).mono ?_
  rintro e w2 ⟨rfl, hb2⟩
  have hz2 := hb2.size
  (try simp at hz2)
  have h0_2 : w2.cell? ⟨w.heap.size, 0, none⟩ = some (.int .u32 167772161) := cell_on hb2 h0_1
  have h1_2 : w2.cell? ⟨w.heap.size, 1, none⟩ = some (.int .u32 3232235522) := cell_on hb2 h1_1
  have h2_2 : w2.cell? ⟨w.heap.size, 2, none⟩ = some (.int .u16 1024) := cell_on hb2 h2_1
  have h3_2 : w2.cell? ⟨w.heap.size, 3, none⟩ = some (.int .u16 80) := cell_on hb2 h3_1
  have h4_2 : w2.cell? ⟨w.heap.size, 4, none⟩ = some (.int .u8 6) := cell_on hb2 h4_1
  have bc0_2 : w2.cell? ⟨g, 0, none⟩ = some (.int .u8 10) := cell_on hb2 bc0_1
  have bc8_2 : w2.cell? ⟨g, 8, none⟩ = some (.int .u8 4) := cell_on hb2 bc8_1
  have bc12_2 : w2.cell? ⟨g, 12, none⟩ = some (.int .u8 6) := cell_on hb2 bc12_1
  have hg2_0 : w.heap.size < w2.heap.size := by omega
  have hg2_1 : g < w2.heap.size := by omega
  have hl2 : w.heap.size ≤ w2.heap.size := by omega
  have hw2 : Hid (Below w.heap.size w w2) := hw1.out.trans (hb2.mono (by first | omega | (simp; done) | (simp; omega)))
  clear hb2 h0_1 h1_1 h2_1 h3_1 h4_1 bc0_1 bc8_1 bc12_1 hg1_0 hw1
  clear b_1
  go_wp2_with (fail)
  refine (c3 _).mono ?_
  rintro e w3 ⟨rfl, hb3⟩
  have hz3 := hb3.size
  (try simp at hz3)
  have h0_3 : w3.cell? ⟨w.heap.size, 0, none⟩ = some (.int .u32 167772161) := cell_on hb3 (cell_alloc h0_2)
  have h1_3 : w3.cell? ⟨w.heap.size, 1, none⟩ = some (.int .u32 3232235522) := cell_on hb3 (cell_alloc h1_2)
  have h2_3 : w3.cell? ⟨w.heap.size, 2, none⟩ = some (.int .u16 1024) := cell_on hb3 (cell_alloc h2_2)
  have h3_3 : w3.cell? ⟨w.heap.size, 3, none⟩ = some (.int .u16 80) := cell_on hb3 (cell_alloc h3_2)
  have h4_3 : w3.cell? ⟨w.heap.size, 4, none⟩ = some (.int .u8 6) := cell_on hb3 (cell_alloc h4_2)
  have bc0_3 : w3.cell? ⟨g, 0, none⟩ = some (.int .u8 10) := cell_on hb3 (cell_alloc bc0_2)
  have bc8_3 : w3.cell? ⟨g, 8, none⟩ = some (.int .u8 4) := cell_on hb3 (cell_alloc bc8_2)
  have bc12_3 : w3.cell? ⟨g, 12, none⟩ = some (.int .u8 6) := cell_on hb3 (cell_alloc bc12_2)
  have u0_3 : w3.cell? ⟨w2.heap.size, 0, none⟩ = some (.int .u32 167772161) := cell_on hb3 (show (w2.alloc (.cells #[.int .u32 167772161, .int .u32 3232235522, .int .u16 1024, .int .u16 80, .int .u8 6] 25)).cell? ⟨w2.heap.size, 0, none⟩ = some (.int .u32 167772161) from by simp [go_sem])
  have u1_3 : w3.cell? ⟨w2.heap.size, 1, none⟩ = some (.int .u32 3232235522) := cell_on hb3 (show (w2.alloc (.cells #[.int .u32 167772161, .int .u32 3232235522, .int .u16 1024, .int .u16 80, .int .u8 6] 25)).cell? ⟨w2.heap.size, 1, none⟩ = some (.int .u32 3232235522) from by simp [go_sem])
  have u2_3 : w3.cell? ⟨w2.heap.size, 2, none⟩ = some (.int .u16 1024) := cell_on hb3 (show (w2.alloc (.cells #[.int .u32 167772161, .int .u32 3232235522, .int .u16 1024, .int .u16 80, .int .u8 6] 25)).cell? ⟨w2.heap.size, 2, none⟩ = some (.int .u16 1024) from by simp [go_sem])
  have u3_3 : w3.cell? ⟨w2.heap.size, 3, none⟩ = some (.int .u16 80) := cell_on hb3 (show (w2.alloc (.cells #[.int .u32 167772161, .int .u32 3232235522, .int .u16 1024, .int .u16 80, .int .u8 6] 25)).cell? ⟨w2.heap.size, 3, none⟩ = some (.int .u16 80) from by simp [go_sem])
  have u4_3 : w3.cell? ⟨w2.heap.size, 4, none⟩ = some (.int .u8 6) := cell_on hb3 (show (w2.alloc (.cells #[.int .u32 167772161, .int .u32 3232235522, .int .u16 1024, .int .u16 80, .int .u8 6] 25)).cell? ⟨w2.heap.size, 4, none⟩ = some (.int .u8 6) from by simp [go_sem])
  have hg3_0 : w.heap.size < w3.heap.size := by omega
  have hg3_1 : g < w3.heap.size := by omega
  have hg3_2 : w2.heap.size < w3.heap.size := by omega
  have hl3 : w.heap.size ≤ w3.heap.size := by omega
  have hw3 : Hid (Below w.heap.size w w3) := (hw2.out.alloc (by first | omega | (simp; done) | (simp; omega)) _).trans (hb3.mono (by first | omega | (simp; done) | (simp; omega)))
  clear hb3 h0_2 h1_2 h2_2 h3_2 h4_2 bc0_2 bc8_2 bc12_2 hg2_0 hg2_1 hw2
  go_wp2_with (fail)
  refine (c4 _ _ (srcW_lit _ (by simp))).mono ?_
  rintro e w4 ⟨rfl, hb4⟩
  have hz4 := hb4.size
  (try simp at hz4)
  have h0_4 : w4.cell? ⟨w.heap.size, 0, none⟩ = some (.int .u32 167772161) := cell_on hb4 (cell_alloc (cell_alloc h0_3))
  have h1_4 : w4.cell? ⟨w.heap.size, 1, none⟩ = some (.int .u32 3232235522) := cell_on hb4 (cell_alloc (cell_alloc h1_3))
  have h2_4 : w4.cell? ⟨w.heap.size, 2, none⟩ = some (.int .u16 1024) := cell_on hb4 (cell_alloc (cell_alloc h2_3))
  have h3_4 : w4.cell? ⟨w.heap.size, 3, none⟩ = some (.int .u16 80) := cell_on hb4 (cell_alloc (cell_alloc h3_3))
  have h4_4 : w4.cell? ⟨w.heap.size, 4, none⟩ = some (.int .u8 6) := cell_on hb4 (cell_alloc (cell_alloc h4_3))
  have bc0_4 : w4.cell? ⟨g, 0, none⟩ = some (.int .u8 10) := cell_on hb4 (cell_alloc (cell_alloc bc0_3))
  have bc8_4 : w4.cell? ⟨g, 8, none⟩ = some (.int .u8 4) := cell_on hb4 (cell_alloc (cell_alloc bc8_3))
  have bc12_4 : w4.cell? ⟨g, 12, none⟩ = some (.int .u8 6) := cell_on hb4 (cell_alloc (cell_alloc bc12_3))
  have u0_4 : w4.cell? ⟨w2.heap.size, 0, none⟩ = some (.int .u32 167772161) := cell_on hb4 (cell_alloc (cell_alloc u0_3))
  have u1_4 : w4.cell? ⟨w2.heap.size, 1, none⟩ = some (.int .u32 3232235522) := cell_on hb4 (cell_alloc (cell_alloc u1_3))
  have u2_4 : w4.cell? ⟨w2.heap.size, 2, none⟩ = some (.int .u16 1024) := cell_on hb4 (cell_alloc (cell_alloc u2_3))
  have u3_4 : w4.cell? ⟨w2.heap.size, 3, none⟩ = some (.int .u16 80) := cell_on hb4 (cell_alloc (cell_alloc u3_3))
  have u4_4 : w4.cell? ⟨w2.heap.size, 4, none⟩ = some (.int .u8 6) := cell_on hb4 (cell_alloc (cell_alloc u4_3))
  have n0_4 : w4.cell? ⟨w3.heap.size, 0, none⟩ = some (.int .u32 167772161) := cell_on hb4 (show ((w3.alloc (.cells #[.int .u32 167772161, .int .u32 3232235522, .int .u16 1024, .int .u16 80, .int .u8 7] 25)).alloc (.cells #[.int .u32 1, .int .u32 2, .int .u32 3, .int .u32 4, .int .u32 5] 22)).cell? ⟨w3.heap.size, 0, none⟩ = some (.int .u32 167772161) from by simp [go_sem])
  have n1_4 : w4.cell? ⟨w3.heap.size, 1, none⟩ = some (.int .u32 3232235522) := cell_on hb4 (show ((w3.alloc (.cells #[.int .u32 167772161, .int .u32 3232235522, .int .u16 1024, .int .u16 80, .int .u8 7] 25)).alloc (.cells #[.int .u32 1, .int .u32 2, .int .u32 3, .int .u32 4, .int .u32 5] 22)).cell? ⟨w3.heap.size, 1, none⟩ = some (.int .u32 3232235522) from by simp [go_sem])
  have n2_4 : w4.cell? ⟨w3.heap.size, 2, none⟩ = some (.int .u16 1024) := cell_on hb4 (show ((w3.alloc (.cells #[.int .u32 167772161, .int .u32 3232235522, .int .u16 1024, .int .u16 80, .int .u8 7] 25)).alloc (.cells #[.int .u32 1, .int .u32 2, .int .u32 3, .int .u32 4, .int .u32 5] 22)).cell? ⟨w3.heap.size, 2, none⟩ = some (.int .u16 1024) from by simp [go_sem])
  have n3_4 : w4.cell? ⟨w3.heap.size, 3, none⟩ = some (.int .u16 80) := cell_on hb4 (show ((w3.alloc (.cells #[.int .u32 167772161, .int .u32 3232235522, .int .u16 1024, .int .u16 80, .int .u8 7] 25)).alloc (.cells #[.int .u32 1, .int .u32 2, .int .u32 3, .int .u32 4, .int .u32 5] 22)).cell? ⟨w3.heap.size, 3, none⟩ = some (.int .u16 80) from by simp [go_sem])
  have n4_4 : w4.cell? ⟨w3.heap.size, 4, none⟩ = some (.int .u8 7) := cell_on hb4 (show ((w3.alloc (.cells #[.int .u32 167772161, .int .u32 3232235522, .int .u16 1024, .int .u16 80, .int .u8 7] 25)).alloc (.cells #[.int .u32 1, .int .u32 2, .int .u32 3, .int .u32 4, .int .u32 5] 22)).cell? ⟨w3.heap.size, 4, none⟩ = some (.int .u8 7) from by simp [go_sem])
  have hg4_0 : w.heap.size < w4.heap.size := by omega
  have hg4_1 : g < w4.heap.size := by omega
  have hg4_2 : w2.heap.size < w4.heap.size := by omega
  have hg4_3 : w3.heap.size < w4.heap.size := by omega
  have hl4 : w.heap.size ≤ w4.heap.size := by omega
  have hw4 : Hid (Below w.heap.size w w4) := ((hw3.out.alloc (by first | omega | (simp; done) | (simp; omega)) _).alloc (by first | omega | (simp; done) | (simp; omega)) _).trans (hb4.mono (by first | omega | (simp; done) | (simp; omega)))
  clear hb4 h0_3 h1_3 h2_3 h3_3 h4_3 bc0_3 bc8_3 bc12_3 u0_3 u1_3 u2_3 u3_3 u4_3 hg3_0 hg3_1 hg3_2 hw3
  go_wp2_with (fail)
  refine (c5 _).mono ?_
  rintro e w5 ⟨rfl, hb5⟩
  have hz5 := hb5.size
  (try simp at hz5)
  have h0_5 : w5.cell? ⟨w.heap.size, 0, none⟩ = some (.int .u32 167772161) := cell_on hb5 (cell_alloc h0_4)
  have h1_5 : w5.cell? ⟨w.heap.size, 1, none⟩ = some (.int .u32 3232235522) := cell_on hb5 (cell_alloc h1_4)
  have h2_5 : w5.cell? ⟨w.heap.size, 2, none⟩ = some (.int .u16 1024) := cell_on hb5 (cell_alloc h2_4)
  have h3_5 : w5.cell? ⟨w.heap.size, 3, none⟩ = some (.int .u16 80) := cell_on hb5 (cell_alloc h3_4)
  have h4_5 : w5.cell? ⟨w.heap.size, 4, none⟩ = some (.int .u8 6) := cell_on hb5 (cell_alloc h4_4)
  have bc0_5 : w5.cell? ⟨g, 0, none⟩ = some (.int .u8 10) := cell_on hb5 (cell_alloc bc0_4)
  have bc8_5 : w5.cell? ⟨g, 8, none⟩ = some (.int .u8 4) := cell_on hb5 (cell_alloc bc8_4)
  have bc12_5 : w5.cell? ⟨g, 12, none⟩ = some (.int .u8 6) := cell_on hb5 (cell_alloc bc12_4)
  have u0_5 : w5.cell? ⟨w2.heap.size, 0, none⟩ = some (.int .u32 167772161) := cell_on hb5 (cell_alloc u0_4)
  have u1_5 : w5.cell? ⟨w2.heap.size, 1, none⟩ = some (.int .u32 3232235522) := cell_on hb5 (cell_alloc u1_4)
  have u2_5 : w5.cell? ⟨w2.heap.size, 2, none⟩ = some (.int .u16 1024) := cell_on hb5 (cell_alloc u2_4)
  have u3_5 : w5.cell? ⟨w2.heap.size, 3, none⟩ = some (.int .u16 80) := cell_on hb5 (cell_alloc u3_4)
  have u4_5 : w5.cell? ⟨w2.heap.size, 4, none⟩ = some (.int .u8 6) := cell_on hb5 (cell_alloc u4_4)
  have n0_5 : w5.cell? ⟨w3.heap.size, 0, none⟩ = some (.int .u32 167772161) := cell_on hb5 (cell_alloc n0_4)
  have n1_5 : w5.cell? ⟨w3.heap.size, 1, none⟩ = some (.int .u32 3232235522) := cell_on hb5 (cell_alloc n1_4)
  have n2_5 : w5.cell? ⟨w3.heap.size, 2, none⟩ = some (.int .u16 1024) := cell_on hb5 (cell_alloc n2_4)
  have n3_5 : w5.cell? ⟨w3.heap.size, 3, none⟩ = some (.int .u16 80) := cell_on hb5 (cell_alloc n3_4)
  have n4_5 : w5.cell? ⟨w3.heap.size, 4, none⟩ = some (.int .u8 7) := cell_on hb5 (cell_alloc n4_4)
  have o0_5 : w5.cell? ⟨w4.heap.size, 0, none⟩ = some (.int .u32 1) := cell_on hb5 (show (w4.alloc (.cells #[.int .u32 1, .int .u32 2, .int .u16 3, .int .u16 4, .int .u8 5] 25)).cell? ⟨w4.heap.size, 0, none⟩ = some (.int .u32 1) from by simp [go_sem])
  have o1_5 : w5.cell? ⟨w4.heap.size, 1, none⟩ = some (.int .u32 2) := cell_on hb5 (show (w4.alloc (.cells #[.int .u32 1, .int .u32 2, .int .u16 3, .int .u16 4, .int .u8 5] 25)).cell? ⟨w4.heap.size, 1, none⟩ = some (.int .u32 2) from by simp [go_sem])
  have o2_5 : w5.cell? ⟨w4.heap.size, 2, none⟩ = some (.int .u16 3) := cell_on hb5 (show (w4.alloc (.cells #[.int .u32 1, .int .u32 2, .int .u16 3, .int .u16 4, .int .u8 5] 25)).cell? ⟨w4.heap.size, 2, none⟩ = some (.int .u16 3) from by simp [go_sem])
  have o3_5 : w5.cell? ⟨w4.heap.size, 3, none⟩ = some (.int .u16 4) := cell_on hb5 (show (w4.alloc (.cells #[.int .u32 1, .int .u32 2, .int .u16 3, .int .u16 4, .int .u8 5] 25)).cell? ⟨w4.heap.size, 3, none⟩ = some (.int .u16 4) from by simp [go_sem])
  have o4_5 : w5.cell? ⟨w4.heap.size, 4, none⟩ = some (.int .u8 5) := cell_on hb5 (show (w4.alloc (.cells #[.int .u32 1, .int .u32 2, .int .u16 3, .int .u16 4, .int .u8 5] 25)).cell? ⟨w4.heap.size, 4, none⟩ = some (.int .u8 5) from by simp [go_sem])
  have hg5_0 : w.heap.size < w5.heap.size := by omega
  have hg5_1 : g < w5.heap.size := by omega
  have hg5_2 : w2.heap.size < w5.heap.size := by omega
  have hg5_3 : w3.heap.size < w5.heap.size := by omega
  have hg5_4 : w4.heap.size < w5.heap.size := by omega
  have hl5 : w.heap.size ≤ w5.heap.size := by omega
  have hw5 : Hid (Below w.heap.size w w5) := (hw4.out.alloc (by first | omega | (simp; done) | (simp; omega)) _).trans (hb5.mono (by first | omega | (simp; done) | (simp; omega)))
  clear hb5 h0_4 h1_4 h2_4 h3_4 h4_4 bc0_4 bc8_4 bc12_4 u0_4 u1_4 u2_4 u3_4 u4_4 n0_4 n1_4 n2_4 n3_4 n4_4 hg4_0 hg4_1 hg4_2 hg4_3 hw4
  go_wp2_with (fail)
  refine (c6 _).mono ?_
  rintro e w6 ⟨rfl, hb6⟩
  have hz6 := hb6.size
  (try simp at hz6)
  have h0_6 : w6.cell? ⟨w.heap.size, 0, none⟩ = some (.int .u32 167772161) := cell_on hb6 (cell_alloc (cell_alloc h0_5))
  have h1_6 : w6.cell? ⟨w.heap.size, 1, none⟩ = some (.int .u32 3232235522) := cell_on hb6 (cell_alloc (cell_alloc h1_5))
  have h2_6 : w6.cell? ⟨w.heap.size, 2, none⟩ = some (.int .u16 1024) := cell_on hb6 (cell_alloc (cell_alloc h2_5))
  have h3_6 : w6.cell? ⟨w.heap.size, 3, none⟩ = some (.int .u16 80) := cell_on hb6 (cell_alloc (cell_alloc h3_5))
  have h4_6 : w6.cell? ⟨w.heap.size, 4, none⟩ = some (.int .u8 6) := cell_on hb6 (cell_alloc (cell_alloc h4_5))
  have bc0_6 : w6.cell? ⟨g, 0, none⟩ = some (.int .u8 10) := cell_on hb6 (cell_alloc (cell_alloc bc0_5))
  have bc8_6 : w6.cell? ⟨g, 8, none⟩ = some (.int .u8 4) := cell_on hb6 (cell_alloc (cell_alloc bc8_5))
  have bc12_6 : w6.cell? ⟨g, 12, none⟩ = some (.int .u8 6) := cell_on hb6 (cell_alloc (cell_alloc bc12_5))
  have u0_6 : w6.cell? ⟨w2.heap.size, 0, none⟩ = some (.int .u32 167772161) := cell_on hb6 (cell_alloc (cell_alloc u0_5))
  have u1_6 : w6.cell? ⟨w2.heap.size, 1, none⟩ = some (.int .u32 3232235522) := cell_on hb6 (cell_alloc (cell_alloc u1_5))
  have u2_6 : w6.cell? ⟨w2.heap.size, 2, none⟩ = some (.int .u16 1024) := cell_on hb6 (cell_alloc (cell_alloc u2_5))
  have u3_6 : w6.cell? ⟨w2.heap.size, 3, none⟩ = some (.int .u16 80) := cell_on hb6 (cell_alloc (cell_alloc u3_5))
  have u4_6 : w6.cell? ⟨w2.heap.size, 4, none⟩ = some (.int .u8 6) := cell_on hb6 (cell_alloc (cell_alloc u4_5))
  have n0_6 : w6.cell? ⟨w3.heap.size, 0, none⟩ = some (.int .u32 167772161) := cell_on hb6 (cell_alloc (cell_alloc n0_5))
  have n1_6 : w6.cell? ⟨w3.heap.size, 1, none⟩ = some (.int .u32 3232235522) := cell_on hb6 (cell_alloc (cell_alloc n1_5))
  have n2_6 : w6.cell? ⟨w3.heap.size, 2, none⟩ = some (.int .u16 1024) := cell_on hb6 (cell_alloc (cell_alloc n2_5))
  have n3_6 : w6.cell? ⟨w3.heap.size, 3, none⟩ = some (.int .u16 80) := cell_on hb6 (cell_alloc (cell_alloc n3_5))
  have n4_6 : w6.cell? ⟨w3.heap.size, 4, none⟩ = some (.int .u8 7) := cell_on hb6 (cell_alloc (cell_alloc n4_5))
  have o0_6 : w6.cell? ⟨w4.heap.size, 0, none⟩ = some (.int .u32 1) := cell_on hb6 (cell_alloc (cell_alloc o0_5))
  have o1_6 : w6.cell? ⟨w4.heap.size, 1, none⟩ = some (.int .u32 2) := cell_on hb6 (cell_alloc (cell_alloc o1_5))
  have o2_6 : w6.cell? ⟨w4.heap.size, 2, none⟩ = some (.int .u16 3) := cell_on hb6 (cell_alloc (cell_alloc o2_5))
  have o3_6 : w6.cell? ⟨w4.heap.size, 3, none⟩ = some (.int .u16 4) := cell_on hb6 (cell_alloc (cell_alloc o3_5))
  have o4_6 : w6.cell? ⟨w4.heap.size, 4, none⟩ = some (.int .u8 5) := cell_on hb6 (cell_alloc (cell_alloc o4_5))
  have t0_6 : w6.cell? ⟨w5.heap.size, 0, none⟩ = some (.int .u32 167772161) := cell_on hb6 (show ((w5.alloc (.cells #[.int .u32 167772161, .int .u32 3232235522, .int .u16 1024, .int .u16 80, .int .u8 7] 25)).alloc (.cells #[.int .u32 167772161, .int .u32 3232235522, .int .u16 1024, .int .u16 80, .int .u8 7] 25)).cell? ⟨w5.heap.size, 0, none⟩ = some (.int .u32 167772161) from by simp [go_sem])
  have t1_6 : w6.cell? ⟨w5.heap.size, 1, none⟩ = some (.int .u32 3232235522) := cell_on hb6 (show ((w5.alloc (.cells #[.int .u32 167772161, .int .u32 3232235522, .int .u16 1024, .int .u16 80, .int .u8 7] 25)).alloc (.cells #[.int .u32 167772161, .int .u32 3232235522, .int .u16 1024, .int .u16 80, .int .u8 7] 25)).cell? ⟨w5.heap.size, 1, none⟩ = some (.int .u32 3232235522) from by simp [go_sem])
  have t2_6 : w6.cell? ⟨w5.heap.size, 2, none⟩ = some (.int .u16 1024) := cell_on hb6 (show ((w5.alloc (.cells #[.int .u32 167772161, .int .u32 3232235522, .int .u16 1024, .int .u16 80, .int .u8 7] 25)).alloc (.cells #[.int .u32 167772161, .int .u32 3232235522, .int .u16 1024, .int .u16 80, .int .u8 7] 25)).cell? ⟨w5.heap.size, 2, none⟩ = some (.int .u16 1024) from by simp [go_sem])
  have t3_6 : w6.cell? ⟨w5.heap.size, 3, none⟩ = some (.int .u16 80) := cell_on hb6 (show ((w5.alloc (.cells #[.int .u32 167772161, .int .u32 3232235522, .int .u16 1024, .int .u16 80, .int .u8 7] 25)).alloc (.cells #[.int .u32 167772161, .int .u32 3232235522, .int .u16 1024, .int .u16 80, .int .u8 7] 25)).cell? ⟨w5.heap.size, 3, none⟩ = some (.int .u16 80) from by simp [go_sem])
  have t4_6 : w6.cell? ⟨w5.heap.size, 4, none⟩ = some (.int .u8 7) := cell_on hb6 (show ((w5.alloc (.cells #[.int .u32 167772161, .int .u32 3232235522, .int .u16 1024, .int .u16 80, .int .u8 7] 25)).alloc (.cells #[.int .u32 167772161, .int .u32 3232235522, .int .u16 1024, .int .u16 80, .int .u8 7] 25)).cell? ⟨w5.heap.size, 4, none⟩ = some (.int .u8 7) from by simp [go_sem])
  have w0_6 : w6.cell? ⟨w5.heap.size + 1, 0, none⟩ = some (.int .u32 167772161) := cell_on hb6 (show ((w5.alloc (.cells #[.int .u32 167772161, .int .u32 3232235522, .int .u16 1024, .int .u16 80, .int .u8 7] 25)).alloc (.cells #[.int .u32 167772161, .int .u32 3232235522, .int .u16 1024, .int .u16 80, .int .u8 7] 25)).cell? ⟨w5.heap.size + 1, 0, none⟩ = some (.int .u32 167772161) from by simp [go_sem])
  have w1_6 : w6.cell? ⟨w5.heap.size + 1, 1, none⟩ = some (.int .u32 3232235522) := cell_on hb6 (show ((w5.alloc (.cells #[.int .u32 167772161, .int .u32 3232235522, .int .u16 1024, .int .u16 80, .int .u8 7] 25)).alloc (.cells #[.int .u32 167772161, .int .u32 3232235522, .int .u16 1024, .int .u16 80, .int .u8 7] 25)).cell? ⟨w5.heap.size + 1, 1, none⟩ = some (.int .u32 3232235522) from by simp [go_sem])
  have w2_6 : w6.cell? ⟨w5.heap.size + 1, 2, none⟩ = some (.int .u16 1024) := cell_on hb6 (show ((w5.alloc (.cells #[.int .u32 167772161, .int .u32 3232235522, .int .u16 1024, .int .u16 80, .int .u8 7] 25)).alloc (.cells #[.int .u32 167772161, .int .u32 3232235522, .int .u16 1024, .int .u16 80, .int .u8 7] 25)).cell? ⟨w5.heap.size + 1, 2, none⟩ = some (.int .u16 1024) from by simp [go_sem])
  have w3_6 : w6.cell? ⟨w5.heap.size + 1, 3, none⟩ = some (.int .u16 80) := cell_on hb6 (show ((w5.alloc (.cells #[.int .u32 167772161, .int .u32 3232235522, .int .u16 1024, .int .u16 80, .int .u8 7] 25)).alloc (.cells #[.int .u32 167772161, .int .u32 3232235522, .int .u16 1024, .int .u16 80, .int .u8 7] 25)).cell? ⟨w5.heap.size + 1, 3, none⟩ = some (.int .u16 80) from by simp [go_sem])
  have w4_6 : w6.cell? ⟨w5.heap.size + 1, 4, none⟩ = some (.int .u8 7) := cell_on hb6 (show ((w5.alloc (.cells #[.int .u32 167772161, .int .u32 3232235522, .int .u16 1024, .int .u16 80, .int .u8 7] 25)).alloc (.cells #[.int .u32 167772161, .int .u32 3232235522, .int .u16 1024, .int .u16 80, .int .u8 7] 25)).cell? ⟨w5.heap.size + 1, 4, none⟩ = some (.int .u8 7) from by simp [go_sem])
  have hg6_0 : w.heap.size < w6.heap.size := by omega
  have hg6_1 : g < w6.heap.size := by omega
  have hg6_2 : w2.heap.size < w6.heap.size := by omega
  have hg6_3 : w3.heap.size < w6.heap.size := by omega
  have hg6_4 : w4.heap.size < w6.heap.size := by omega
  have hg6_5 : w5.heap.size < w6.heap.size := by omega
  have hg6_6 : w5.heap.size + 1 < w6.heap.size := by omega
  have hl6 : w.heap.size ≤ w6.heap.size := by omega
  have hw6 : Hid (Below w.heap.size w w6) := ((hw5.out.alloc (by first | omega | (simp; done) | (simp; omega)) _).alloc (by first | omega | (simp; done) | (simp; omega)) _).trans (hb6.mono (by first | omega | (simp; done) | (simp; omega)))
  clear hb6 h0_5 h1_5 h2_5 h3_5 h4_5 bc0_5 bc8_5 bc12_5 u0_5 u1_5 u2_5 u3_5 u4_5 n0_5 n1_5 n2_5 n3_5 n4_5 o0_5 o1_5 o2_5 o3_5 o4_5 hg5_0 hg5_1 hg5_2 hg5_3 hg5_4 hw5
  go_wp2_with (fail)
  refine (c7 _).mono ?_
  rintro e w7 ⟨rfl, hb7⟩
  have hz7 := hb7.size
  (try simp at hz7)
  have h0_7 : w7.cell? ⟨w.heap.size, 0, none⟩ = some (.int .u32 167772161) := cell_on hb7 h0_6
  have h1_7 : w7.cell? ⟨w.heap.size, 1, none⟩ = some (.int .u32 3232235522) := cell_on hb7 h1_6
  have h2_7 : w7.cell? ⟨w.heap.size, 2, none⟩ = some (.int .u16 1024) := cell_on hb7 h2_6
  have h3_7 : w7.cell? ⟨w.heap.size, 3, none⟩ = some (.int .u16 80) := cell_on hb7 h3_6
  have h4_7 : w7.cell? ⟨w.heap.size, 4, none⟩ = some (.int .u8 6) := cell_on hb7 h4_6
  have bc0_7 : w7.cell? ⟨g, 0, none⟩ = some (.int .u8 10) := cell_on hb7 bc0_6
  have bc8_7 : w7.cell? ⟨g, 8, none⟩ = some (.int .u8 4) := cell_on hb7 bc8_6
  have bc12_7 : w7.cell? ⟨g, 12, none⟩ = some (.int .u8 6) := cell_on hb7 bc12_6
  have u0_7 : w7.cell? ⟨w2.heap.size, 0, none⟩ = some (.int .u32 167772161) := cell_on hb7 u0_6
  have u1_7 : w7.cell? ⟨w2.heap.size, 1, none⟩ = some (.int .u32 3232235522) := cell_on hb7 u1_6
  have u2_7 : w7.cell? ⟨w2.heap.size, 2, none⟩ = some (.int .u16 1024) := cell_on hb7 u2_6
  have u3_7 : w7.cell? ⟨w2.heap.size, 3, none⟩ = some (.int .u16 80) := cell_on hb7 u3_6
  have u4_7 : w7.cell? ⟨w2.heap.size, 4, none⟩ = some (.int .u8 6) := cell_on hb7 u4_6
  have n0_7 : w7.cell? ⟨w3.heap.size, 0, none⟩ = some (.int .u32 167772161) := cell_on hb7 n0_6
  have n1_7 : w7.cell? ⟨w3.heap.size, 1, none⟩ = some (.int .u32 3232235522) := cell_on hb7 n1_6
  have n2_7 : w7.cell? ⟨w3.heap.size, 2, none⟩ = some (.int .u16 1024) := cell_on hb7 n2_6
  have n3_7 : w7.cell? ⟨w3.heap.size, 3, none⟩ = some (.int .u16 80) := cell_on hb7 n3_6
  have n4_7 : w7.cell? ⟨w3.heap.size, 4, none⟩ = some (.int .u8 7) := cell_on hb7 n4_6
  have o0_7 : w7.cell? ⟨w4.heap.size, 0, none⟩ = some (.int .u32 1) := cell_on hb7 o0_6
  have o1_7 : w7.cell? ⟨w4.heap.size, 1, none⟩ = some (.int .u32 2) := cell_on hb7 o1_6
  have o2_7 : w7.cell? ⟨w4.heap.size, 2, none⟩ = some (.int .u16 3) := cell_on hb7 o2_6
  have o3_7 : w7.cell? ⟨w4.heap.size, 3, none⟩ = some (.int .u16 4) := cell_on hb7 o3_6
  have o4_7 : w7.cell? ⟨w4.heap.size, 4, none⟩ = some (.int .u8 5) := cell_on hb7 o4_6
  have t0_7 : w7.cell? ⟨w5.heap.size, 0, none⟩ = some (.int .u32 167772161) := cell_on hb7 t0_6
  have t1_7 : w7.cell? ⟨w5.heap.size, 1, none⟩ = some (.int .u32 3232235522) := cell_on hb7 t1_6
  have t2_7 : w7.cell? ⟨w5.heap.size, 2, none⟩ = some (.int .u16 1024) := cell_on hb7 t2_6
  have t3_7 : w7.cell? ⟨w5.heap.size, 3, none⟩ = some (.int .u16 80) := cell_on hb7 t3_6
  have t4_7 : w7.cell? ⟨w5.heap.size, 4, none⟩ = some (.int .u8 7) := cell_on hb7 t4_6
  have w0_7 : w7.cell? ⟨w5.heap.size + 1, 0, none⟩ = some (.int .u32 167772161) := cell_on hb7 w0_6
  have w1_7 : w7.cell? ⟨w5.heap.size + 1, 1, none⟩ = some (.int .u32 3232235522) := cell_on hb7 w1_6
  have w2_7 : w7.cell? ⟨w5.heap.size + 1, 2, none⟩ = some (.int .u16 1024) := cell_on hb7 w2_6
  have w3_7 : w7.cell? ⟨w5.heap.size + 1, 3, none⟩ = some (.int .u16 80) := cell_on hb7 w3_6
  have w4_7 : w7.cell? ⟨w5.heap.size + 1, 4, none⟩ = some (.int .u8 7) := cell_on hb7 w4_6
  have hg7_0 : w.heap.size < w7.heap.size := by omega
  have hg7_1 : g < w7.heap.size := by omega
  have hg7_2 : w2.heap.size < w7.heap.size := by omega
  have hg7_3 : w3.heap.size < w7.heap.size := by omega
  have hg7_4 : w4.heap.size < w7.heap.size := by omega
  have hg7_5 : w5.heap.size < w7.heap.size := by omega
  have hg7_6 : w5.heap.size + 1 < w7.heap.size := by omega
  have hl7 : w.heap.size ≤ w7.heap.size := by omega
  have hw7 : Hid (Below w.heap.size w w7) := hw6.out.trans (hb7.mono (by first | omega | (simp; done) | (simp; omega)))
  clear hb7 h0_6 h1_6 h2_6 h3_6 h4_6 bc0_6 bc8_6 bc12_6 u0_6 u1_6 u2_6 u3_6 u4_6 n0_6 n1_6 n2_6 n3_6 n4_6 o0_6 o1_6 o2_6 o3_6 o4_6 t0_6 t1_6 t2_6 t3_6 t4_6 w0_6 w1_6 w2_6 w3_6 w4_6 hg6_0 hg6_1 hg6_2 hg6_3 hg6_4 hg6_5 hg6_6 hw6
  go_wp2
  go_ret
  exact ⟨rfl, hw7.out⟩
end Go.Proofs.Ytpgadbiohmofeab
