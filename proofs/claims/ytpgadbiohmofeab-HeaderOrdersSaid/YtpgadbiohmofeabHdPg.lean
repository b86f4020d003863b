/-
  Turn of header: what it hands back.
-/
import Derived.Test.YtpgadbiohmofeabHdPe
import Derived.Test.YtpgadbiohmofeabHdRd
import Derived.Deep.DeepCutAuto
import Derived.Deep.RegionHeld3
namespace Go.Proofs.Ytpgadbiohmofeab
open Go.RowKit
set_option linter.unusedVariables false
set_option linter.unusedSimpArgs false

theorem xor_all : ∀ t, t < 256 → ∀ k, k < 8 → t ^^^ 2 ^ k = flipB t k := by decide +kernel
set_option maxHeartbeats 1000000 in
theorem trnN : TrnN := by
  intro h i w o hi
  have kb := fun W => isBitT i W
  have e : decide (0 ≤ i ∧ i ≤ 103) = false := decide_eq_false (by omega)
  rw [e] at kb
  clear e hi
  go_enter Try.func10, Try.ntmps10
  go_wp2_with (fail)
  refine (kb _).mono ?_
  rintro e w' ⟨rfl, hw⟩
  obtain rfl := hw.symm
  clear hw kb
  go_wp2
  exact bodyPost_ret (v := .tuple #[.agg #[.int .u32 (h0.s : Int), .int .u32 (h0.d : Int), .int .u16 (h0.p : Int), .int .u16 (h0.q : Int), .int .u8 (h0.r : Int)], .int .i64 1]) (by simp [results, Try.results10, go_sem, h0]) rfl ⟨rfl, by (repeat (first | assumption | exact Below.refl _ _ | refine Below.drew ?_ | refine bel_drewN ?_ _ | refine Below.setCell ?_ (by first | omega | (simp; done) | (simp; omega)) _ | refine Below.alloc ?_ (by first | omega | (simp; done) | (simp; omega)) _ | refine bel_of ?_ (by assumption)))⟩
/-- The bytes l in the block g; a header's cells that may be written at B. -/
def P13 (w wx : World) (g B : Nat) (l : List Nat) : Prop := RowB wx g (.slice (some ⟨g, 0, none⟩) 13 13) l ∧ FreeH wx B ∧ Below w.heap.size w wx
theorem P13.drew {w wx : World} {g B : Nat} {l : List Nat} (h : P13 w wx g B l) : P13 w wx.drew g B l :=
  ⟨RowB.on h.1 (Below.refl _ _).drew, ⟨h.2.1.1, h.2.1.2⟩, h.2.2.drew⟩
set_option maxHeartbeats 16000000 in
theorem trnC : TrnC := by
  intro h i w o hi
  have kb := fun W => isBitT (i : Int) W
  have e : decide (0 ≤ (i : Int) ∧ (i : Int) ≤ 103) = true := decide_eq_true (by omega)
  rw [e] at kb
  clear e
  have ko := fun W => oneT i W hi
  have hi0 : (0 : Int) ≤ (i : Int) := by omega
  have hk : i / 8 < 13 := by omega
  have hk13 : (i : Int) / 8 < 13 := by omega
  have hk0 : (0 : Int) ≤ (i : Int) / 8 := by omega
  have ht := getD_lt (bytesH_bd h) (i / 8)
  have hK8 : 2 ^ (7 - i % 8) ≤ 2 ^ 7 := Nat.pow_le_pow_right (by decide) (by omega)
  have ex := u8_xor_nat ((bytesH h).getD (i / 8) 0) (2 ^ (7 - i % 8)) ht (by omega)
  rw [xor_all _ ht _ (by omega)] at ex
  have HT : Hid ((bytesH h).set (i / 8) (flipB ((bytesH h).getD (i / 8) 0) (7 - i % 8)) = turnL (bytesH h) i) := rfl
  have hTl : (turnL (bytesH h) i).length = 13 := by rw [turnL_length]; rfl
  have kw := fun W => wheadT (turnL (bytesH h) i) W hTl (turnL_bd (bytesH_bd h) i)
  change ∀ W, Calls _ _ _ _ (fun e w' => e = .returned (.agg #[.int .u32 ((turnH h i).s : Int), .int .u32 ((turnH h i).d : Int), .int .u16 ((turnH h i).p : Int), .int .u16 ((turnH h i).q : Int), .int .u8 ((turnH h i).r : Int)]) ∧ _) at kw
  have kl := fun W => layT h W o
  generalize turnH h i = H at *
  generalize turnL (bytesH h) i = M at *
  obtain ⟨d0, d1, d2, d3, d4, d5, d6, d7, d8, d9, d10, d11, d12, hMe⟩ := len13 hTl
  have hv2 : (.agg #[.int .u8 ((M.getD 0 0 : Nat) : Int), .int .u8 ((M.getD 1 0 : Nat) : Int), .int .u8 ((M.getD 2 0 : Nat) : Int), .int .u8 ((M.getD 3 0 : Nat) : Int), .int .u8 ((M.getD 4 0 : Nat) : Int), .int .u8 ((M.getD 5 0 : Nat) : Int), .int .u8 ((M.getD 6 0 : Nat) : Int), .int .u8 ((M.getD 7 0 : Nat) : Int), .int .u8 ((M.getD 8 0 : Nat) : Int), .int .u8 ((M.getD 9 0 : Nat) : Int), .int .u8 ((M.getD 10 0 : Nat) : Int), .int .u8 ((M.getD 11 0 : Nat) : Int), .int .u8 ((M.getD 12 0 : Nat) : Int)] : Value) = .agg #[.int .u8 (d0 : Int), .int .u8 (d1 : Int), .int .u8 (d2 : Int), .int .u8 (d3 : Int), .int .u8 (d4 : Int), .int .u8 (d5 : Int), .int .u8 (d6 : Int), .int .u8 (d7 : Int), .int .u8 (d8 : Int), .int .u8 (d9 : Int), .int .u8 (d10 : Int), .int .u8 (d11 : Int), .int .u8 (d12 : Int)] := by rw [hMe]; rfl
  simp only [hv2] at kw
  have hL : (bytesH h).length = 13 := rfl
  generalize bytesH h = L at *
  obtain ⟨a0, a1, a2, a3, a4, a5, a6, a7, a8, a9, b0, b1, b2, hLe⟩ := len13 hL
  have hv1 : (.agg #[.int .u8 ((L.getD 0 0 : Nat) : Int), .int .u8 ((L.getD 1 0 : Nat) : Int), .int .u8 ((L.getD 2 0 : Nat) : Int), .int .u8 ((L.getD 3 0 : Nat) : Int), .int .u8 ((L.getD 4 0 : Nat) : Int), .int .u8 ((L.getD 5 0 : Nat) : Int), .int .u8 ((L.getD 6 0 : Nat) : Int), .int .u8 ((L.getD 7 0 : Nat) : Int), .int .u8 ((L.getD 8 0 : Nat) : Int), .int .u8 ((L.getD 9 0 : Nat) : Int), .int .u8 ((L.getD 10 0 : Nat) : Int), .int .u8 ((L.getD 11 0 : Nat) : Int), .int .u8 ((L.getD 12 0 : Nat) : Int)] : Value) = .agg #[.int .u8 (a0 : Int), .int .u8 (a1 : Int), .int .u8 (a2 : Int), .int .u8 (a3 : Int), .int .u8 (a4 : Int), .int .u8 (a5 : Int), .int .u8 (a6 : Int), .int .u8 (a7 : Int), .int .u8 (a8 : Int), .int .u8 (a9 : Int), .int .u8 (b0 : Int), .int .u8 (b1 : Int), .int .u8 (b2 : Int)] := by rw [hLe]; rfl
  simp only [hv1] at kl
  have HLe : Hid (L = [a0, a1, a2, a3, a4, a5, a6, a7, a8, a9, b0, b1, b2]) := hLe
  have HMe : Hid (M = [d0, d1, d2, d3, d4, d5, d6, d7, d8, d9, d10, d11, d12]) := hMe
  have HMl : Hid (M.length = 13) := hTl
  have HLl : Hid (L.length = 13) := hL
  obtain ⟨t, htt⟩ : ∃ t, t = L.getD (i / 8) 0 := ⟨_, rfl⟩
  rw [← htt] at ht ex HT
  have HTt : Hid (L.getD (i / 8) 0 = t) := htt.symm
  generalize 2 ^ (7 - i % 8) = K at *
  generalize flipB t (7 - i % 8) = x at *
  clear hLe hMe hTl hL hv1 hv2 htt
  go_enter Try.func10, Try.ntmps10
  go_wp2_with (fail)
  refine (kb _).mono ?_
  rintro e w' ⟨rfl, hw⟩
  obtain rfl := hw.symm
  clear hw kb
  go_wp2_with (fail)
  refine (kl _).mono ?_
  rintro e w1 ⟨rfl, b1⟩
  have hz := b1.size
  simp at hz
  have HF : Hid (FreeH w1 (w.heap.size + 1)) := by
    have := (freeH_new (w := w.alloc (.cells #[.int .u32 (h.s : Int), .int .u32 (h.d : Int), .int .u16 (h.p : Int), .int .u16 (h.q : Int), .int .u8 (h.r : Int)] 25)) (a0 := .int .u32 0) (a1 := .int .u32 0) (a2 := .int .u16 0) (a3 := .int .u16 0) (a4 := .int .u8 0) (t := 25)).on b1 (by simp)
    show FreeH _ _
    simpa using this
  have HB : Hid (Below w.heap.size w w1) := (((Below.refl _ _).alloc (Nat.le_refl _) _).alloc (by simp) _).trans (b1.mono (by simp; omega))
  clear b1 kl
  have HP : Hid (P13 w (w1.alloc (.cells #[.int .u8 (a0 : Int), .int .u8 (a1 : Int), .int .u8 (a2 : Int), .int .u8 (a3 : Int), .int .u8 (a4 : Int), .int .u8 (a5 : Int), .int .u8 (a6 : Int), .int .u8 (a7 : Int), .int .u8 (a8 : Int), .int .u8 (a9 : Int), .int .u8 (b0 : Int), .int .u8 (b1 : Int), .int .u8 (b2 : Int)] 39)) w1.heap.size (w.heap.size + 1) L) := by
    refine ⟨?_, HF.out.on ((Below.refl _ _).alloc (Nat.le_refl _) _) (by omega), HB.out.alloc (by omega) _⟩
    have := row13 w1 L w1.heap.size HLl.out (Nat.le_refl _)
    rw [HLe.out] at this ⊢
    exact this
  go_upto_region 4 with (fail)
  generalize w1.alloc (.cells #[.int .u8 (a0 : Int), .int .u8 (a1 : Int), .int .u8 (a2 : Int), .int .u8 (a3 : Int), .int .u8 (a4 : Int), .int .u8 (a5 : Int), .int .u8 (a6 : Int), .int .u8 (a7 : Int), .int .u8 (a8 : Int), .int .u8 (a9 : Int), .int .u8 (b0 : Int), .int .u8 (b1 : Int), .int .u8 (b2 : Int)] 39) = V at *
  have x0 : V.cell? ⟨w1.heap.size, i / 8, none⟩ = some (.int .u8 (t : Int)) := by rw [RowB.get HP.out.1 HLl.out _ hk, HTt.out]
  have fz : V.frozen? ⟨w1.heap.size, i / 8, none⟩ = false := HP.out.1.frozen _
  have HP2 : Hid (P13 w (V.setCell ⟨w1.heap.size, i / 8, none⟩ (.int .u8 (x : Int))) w1.heap.size (w.heap.size + 1) M) := by
    have hp := HP.out.1.put (i / 8) x
    rw [HT.out] at hp
    refine ⟨hp.1, ⟨fun j hj => ?_, fun j => ?_⟩, HP.out.2.2.setCell (by show w.heap.size ≤ w1.heap.size; omega) _⟩
    · rw [World.cell?_setCell_other _ _ _ _ (by first | (simp; done) | (simp; omega))]; exact HP.out.2.1.1 j hj
    · rw [World.frozen?_setCell]; exact HP.out.2.1.2 j
  clear HP HF HB HT HTt
  go_cut [6] (fun s wx => s = .pointer (some ⟨w1.heap.size, 0, none⟩) ∧ Hid (P13 w wx w1.heap.size (w.heap.size + 1) M))
  case first =>
    clear ht hK8 HLe HMe HMl HLl kw
    rcases (show i / 8 = 0 ∨ i / 8 = 1 ∨ i / 8 = 2 ∨ i / 8 = 3 ∨ i / 8 = 4 ∨ i / 8 = 5 ∨ i / 8 = 6 ∨ i / 8 = 7 ∨ i / 8 = 8 ∨ i / 8 = 9 ∨ i / 8 = 10 ∨ i / 8 = 11 ∨ i / 8 = 12 by omega) with hq | hq | hq | hq | hq | hq | hq | hq | hq | hq | hq | hq | hq
    · have hqi : (i : Int) / 8 = 0 := by omega
      have hqt : Int.tdiv (i : Int) 8 = 0 := by rw [Int.tdiv_eq_ediv_of_nonneg hi0]; exact hqi
      rw [hq] at x0 fz HP2
      clear hk13 hk0 hk
      go_region_with (go_at_call 18; refine (ko _).mono ?_; rintro e w' ⟨rfl, hw⟩; obtain rfl := hw.symm; clear hw)
      all_goals
        go_wp2_with (fail)
        go_meet
        case rel => exact ⟨rfl, by first | exact HP2.out.drew | exact HP2.out⟩
    · have hqi : (i : Int) / 8 = 1 := by omega
      have hqt : Int.tdiv (i : Int) 8 = 1 := by rw [Int.tdiv_eq_ediv_of_nonneg hi0]; exact hqi
      rw [hq] at x0 fz HP2
      clear hk13 hk0 hk
      go_region_with (go_at_call 18; refine (ko _).mono ?_; rintro e w' ⟨rfl, hw⟩; obtain rfl := hw.symm; clear hw)
      all_goals
        go_wp2_with (fail)
        go_meet
        case rel => exact ⟨rfl, by first | exact HP2.out.drew | exact HP2.out⟩
    · have hqi : (i : Int) / 8 = 2 := by omega
      have hqt : Int.tdiv (i : Int) 8 = 2 := by rw [Int.tdiv_eq_ediv_of_nonneg hi0]; exact hqi
      rw [hq] at x0 fz HP2
      clear hk13 hk0 hk
      go_region_with (go_at_call 18; refine (ko _).mono ?_; rintro e w' ⟨rfl, hw⟩; obtain rfl := hw.symm; clear hw)
      all_goals
        go_wp2_with (fail)
        go_meet
        case rel => exact ⟨rfl, by first | exact HP2.out.drew | exact HP2.out⟩
    · have hqi : (i : Int) / 8 = 3 := by omega
      have hqt : Int.tdiv (i : Int) 8 = 3 := by rw [Int.tdiv_eq_ediv_of_nonneg hi0]; exact hqi
      rw [hq] at x0 fz HP2
      clear hk13 hk0 hk
      go_region_with (go_at_call 18; refine (ko _).mono ?_; rintro e w' ⟨rfl, hw⟩; obtain rfl := hw.symm; clear hw)
      all_goals
        go_wp2_with (fail)
        go_meet
        case rel => exact ⟨rfl, by first | exact HP2.out.drew | exact HP2.out⟩
    · have hqi : (i : Int) / 8 = 4 := by omega
      have hqt : Int.tdiv (i : Int) 8 = 4 := by rw [Int.tdiv_eq_ediv_of_nonneg hi0]; exact hqi
      rw [hq] at x0 fz HP2
      clear hk13 hk0 hk
      go_region_with (go_at_call 18; refine (ko _).mono ?_; rintro e w' ⟨rfl, hw⟩; obtain rfl := hw.symm; clear hw)
      all_goals
        go_wp2_with (fail)
        go_meet
        case rel => exact ⟨rfl, by first | exact HP2.out.drew | exact HP2.out⟩
    · have hqi : (i : Int) / 8 = 5 := by omega
      have hqt : Int.tdiv (i : Int) 8 = 5 := by rw [Int.tdiv_eq_ediv_of_nonneg hi0]; exact hqi
      rw [hq] at x0 fz HP2
      clear hk13 hk0 hk
      go_region_with (go_at_call 18; refine (ko _).mono ?_; rintro e w' ⟨rfl, hw⟩; obtain rfl := hw.symm; clear hw)
      all_goals
        go_wp2_with (fail)
        go_meet
        case rel => exact ⟨rfl, by first | exact HP2.out.drew | exact HP2.out⟩
    · have hqi : (i : Int) / 8 = 6 := by omega
      have hqt : Int.tdiv (i : Int) 8 = 6 := by rw [Int.tdiv_eq_ediv_of_nonneg hi0]; exact hqi
      rw [hq] at x0 fz HP2
      clear hk13 hk0 hk
      go_region_with (go_at_call 18; refine (ko _).mono ?_; rintro e w' ⟨rfl, hw⟩; obtain rfl := hw.symm; clear hw)
      all_goals
        go_wp2_with (fail)
        go_meet
        case rel => exact ⟨rfl, by first | exact HP2.out.drew | exact HP2.out⟩
    · have hqi : (i : Int) / 8 = 7 := by omega
      have hqt : Int.tdiv (i : Int) 8 = 7 := by rw [Int.tdiv_eq_ediv_of_nonneg hi0]; exact hqi
      rw [hq] at x0 fz HP2
      clear hk13 hk0 hk
      go_region_with (go_at_call 18; refine (ko _).mono ?_; rintro e w' ⟨rfl, hw⟩; obtain rfl := hw.symm; clear hw)
      all_goals
        go_wp2_with (fail)
        go_meet
        case rel => exact ⟨rfl, by first | exact HP2.out.drew | exact HP2.out⟩
    · have hqi : (i : Int) / 8 = 8 := by omega
      have hqt : Int.tdiv (i : Int) 8 = 8 := by rw [Int.tdiv_eq_ediv_of_nonneg hi0]; exact hqi
      rw [hq] at x0 fz HP2
      clear hk13 hk0 hk
      go_region_with (go_at_call 18; refine (ko _).mono ?_; rintro e w' ⟨rfl, hw⟩; obtain rfl := hw.symm; clear hw)
      all_goals
        go_wp2_with (fail)
        go_meet
        case rel => exact ⟨rfl, by first | exact HP2.out.drew | exact HP2.out⟩
    · have hqi : (i : Int) / 8 = 9 := by omega
      have hqt : Int.tdiv (i : Int) 8 = 9 := by rw [Int.tdiv_eq_ediv_of_nonneg hi0]; exact hqi
      rw [hq] at x0 fz HP2
      clear hk13 hk0 hk
      go_region_with (go_at_call 18; refine (ko _).mono ?_; rintro e w' ⟨rfl, hw⟩; obtain rfl := hw.symm; clear hw)
      all_goals
        go_wp2_with (fail)
        go_meet
        case rel => exact ⟨rfl, by first | exact HP2.out.drew | exact HP2.out⟩
    · have hqi : (i : Int) / 8 = 10 := by omega
      have hqt : Int.tdiv (i : Int) 8 = 10 := by rw [Int.tdiv_eq_ediv_of_nonneg hi0]; exact hqi
      rw [hq] at x0 fz HP2
      clear hk13 hk0 hk
      go_region_with (go_at_call 18; refine (ko _).mono ?_; rintro e w' ⟨rfl, hw⟩; obtain rfl := hw.symm; clear hw)
      all_goals
        go_wp2_with (fail)
        go_meet
        case rel => exact ⟨rfl, by first | exact HP2.out.drew | exact HP2.out⟩
    · have hqi : (i : Int) / 8 = 11 := by omega
      have hqt : Int.tdiv (i : Int) 8 = 11 := by rw [Int.tdiv_eq_ediv_of_nonneg hi0]; exact hqi
      rw [hq] at x0 fz HP2
      clear hk13 hk0 hk
      go_region_with (go_at_call 18; refine (ko _).mono ?_; rintro e w' ⟨rfl, hw⟩; obtain rfl := hw.symm; clear hw)
      all_goals
        go_wp2_with (fail)
        go_meet
        case rel => exact ⟨rfl, by first | exact HP2.out.drew | exact HP2.out⟩
    · have hqi : (i : Int) / 8 = 12 := by omega
      have hqt : Int.tdiv (i : Int) 8 = 12 := by rw [Int.tdiv_eq_ediv_of_nonneg hi0]; exact hqi
      rw [hq] at x0 fz HP2
      clear hk13 hk0 hk
      go_region_with (go_at_call 18; refine (ko _).mono ?_; rintro e w' ⟨rfl, hw⟩; obtain rfl := hw.symm; clear hw)
      all_goals
        go_wp2_with (fail)
        go_meet
        case rel => exact ⟨rfl, by first | exact HP2.out.drew | exact HP2.out⟩
  case rest =>
    obtain ⟨rfl, HP3⟩ := hcut
    clear HP2 x0 fz
    have hcs := fun k hk => RowB.get HP3.out.1 HMl.out k hk
    rw [HMe.out] at hcs
    have c0 : wc.cell? ⟨w1.heap.size, 0, none⟩ = some (.int .u8 (d0 : Int)) := hcs 0 (by decide)
    have c1 : wc.cell? ⟨w1.heap.size, 1, none⟩ = some (.int .u8 (d1 : Int)) := hcs 1 (by decide)
    have c2 : wc.cell? ⟨w1.heap.size, 2, none⟩ = some (.int .u8 (d2 : Int)) := hcs 2 (by decide)
    have c3 : wc.cell? ⟨w1.heap.size, 3, none⟩ = some (.int .u8 (d3 : Int)) := hcs 3 (by decide)
    have c4 : wc.cell? ⟨w1.heap.size, 4, none⟩ = some (.int .u8 (d4 : Int)) := hcs 4 (by decide)
    have c5 : wc.cell? ⟨w1.heap.size, 5, none⟩ = some (.int .u8 (d5 : Int)) := hcs 5 (by decide)
    have c6 : wc.cell? ⟨w1.heap.size, 6, none⟩ = some (.int .u8 (d6 : Int)) := hcs 6 (by decide)
    have c7 : wc.cell? ⟨w1.heap.size, 7, none⟩ = some (.int .u8 (d7 : Int)) := hcs 7 (by decide)
    have c8 : wc.cell? ⟨w1.heap.size, 8, none⟩ = some (.int .u8 (d8 : Int)) := hcs 8 (by decide)
    have c9 : wc.cell? ⟨w1.heap.size, 9, none⟩ = some (.int .u8 (d9 : Int)) := hcs 9 (by decide)
    have c10 : wc.cell? ⟨w1.heap.size, 10, none⟩ = some (.int .u8 (d10 : Int)) := hcs 10 (by decide)
    have c11 : wc.cell? ⟨w1.heap.size, 11, none⟩ = some (.int .u8 (d11 : Int)) := hcs 11 (by decide)
    have c12 : wc.cell? ⟨w1.heap.size, 12, none⟩ = some (.int .u8 (d12 : Int)) := hcs 12 (by decide)
    have HF3 : Hid (FreeH wc (w.heap.size + 1)) := HP3.out.2.1
    have HB3 : Hid (Below w.heap.size w wc) := HP3.out.2.2
    have hzc : w1.heap.size < wc.heap.size := World.block_lt_of_cell? _ _ c0
    clear HP3 hcs
    go_wp2_with (fail)
    refine (kw _).mono ?_
    rintro e w3 ⟨rfl, b3⟩
    have hfr := HF3.out.on b3 (by omega)
    obtain ⟨y0, e0⟩ := hfr.1 0 (by omega)
    obtain ⟨y1, e1⟩ := hfr.1 1 (by omega)
    obtain ⟨y2, e2⟩ := hfr.1 2 (by omega)
    obtain ⟨y3, e3⟩ := hfr.1 3 (by omega)
    obtain ⟨y4, e4⟩ := hfr.1 4 (by omega)
    have f2 := hfr.2
    have HB4 : Hid (Below w.heap.size w w3) := HB3.out.trans (b3.mono (by omega))
    clear hfr HF3 HB3 b3 c0 c1 c2 c3 c4 c5 c6 c7 c8 c9 c10 c11 c12
    go_wp2
    exact bodyPost_ret (v := .tuple #[.agg #[.int .u32 (H.s : Int), .int .u32 (H.d : Int), .int .u16 (H.p : Int), .int .u16 (H.q : Int), .int .u8 (H.r : Int)], .int .i64 0]) (by simp [results, Try.results10, go_sem, e0, e1, e2, e3, e4, f2]) rfl ⟨rfl, by (iterate 5 (refine Below.setCell ?_ (Nat.le_succ _) _)); exact HB4.out⟩
end Go.Proofs.Ytpgadbiohmofeab
