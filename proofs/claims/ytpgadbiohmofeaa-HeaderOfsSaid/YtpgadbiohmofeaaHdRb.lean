/-
  What the greater functions of the document's answer hand back: Turn, Compare, Next, Differ, Of.
-/
import Derived.Test.YtpgadbiohmofeaaHdR
namespace Go.Proofs.Ytpgadbiohmofeaa
open Go.RowKit
set_option linter.unusedVariables false
set_option linter.unusedSimpArgs false
attribute [local go_sem ↓] Go.wp_at_zero Go.wp_at_succ

theorem flip_go : ∀ b, b < 256 → ∀ k, k < 8 → (b / 2 ^ k % 2 = 1 → flipB b k = b - 2 ^ k ∧ 2 ^ k ≤ b) ∧ (b / 2 ^ k % 2 = 0 → flipB b k = b + 2 ^ k ∧ b + 2 ^ k < 256) := by decide +kernel
set_option maxHeartbeats 1000000 in
theorem rTurnC (h : Hd) (i : Nat) (w : World) (o : OkH h) (hi : i < 104) :
    Calls Try.prog 18 #[.agg #[.int .u32 (h.s : Int), .int .u32 (h.d : Int), .int .u16 (h.p : Int), .int .u16 (h.q : Int), .int .u8 (h.r : Int)], .int .i64 (i : Int)] w fun e w' => e = .returned (.tuple #[.agg #[.int .u32 ((turnH h i).s : Int), .int .u32 ((turnH h i).d : Int), .int .u16 ((turnH h i).p : Int), .int .u16 ((turnH h i).q : Int), .int .u8 ((turnH h i).r : Int)], .int .i64 0]) ∧ Below w.heap.size w w' := by
  obtain ⟨H, hH⟩ : ∃ H, H = turnH h i := ⟨_, rfl⟩
  rw [← hH]
  have HH : Hid (H = turnH h i) := hH
  clear hH
  have d1 : decide ((i : Int) < 0) = false := decide_eq_false (by omega)
  have d2 : decide (103 < (i : Int)) = false := decide_eq_false (by omega)
  have hi0 : (0 : Int) ≤ (i : Int) := by omega
  go_enter Try.func18, Try.ntmps18
  go_wp2_with (fail)
  refine (rpackT h _ o).mono ?_
  rintro e w1 ⟨v1, rfl, r1, b1⟩
  have hbt := rbitT (bytesH h) v1 i w1 r1.src (by rw [bytesH_length]; omega) (by rw [bytesH_length]; omega) (bytesH_bd h)
  obtain ⟨ad, cap, hv, hcap, hat⟩ := r1.form
  rw [bytesH_length] at hv
  subst hv
  obtain ⟨g, rfl, hg1, hg2, hcell⟩ := hat (by rw [bytesH_length]; omega)
  simp at hg1
  have hz1 := b1.size
  simp at hz1
  rw [bytesH_length] at hcap
  have x0 := hcell (i / 8) (by rw [bytesH_length]; omega)
  have fz := r1.frozen (i / 8)
  have hget : (bytesH h).getD (i / 8) 0 = (bytesH h)[i / 8]'(by rw [bytesH_length]; omega) := by rw [List.getD_eq_getElem?_getD, List.getElem?_eq_getElem (by rw [bytesH_length]; omega)]; rfl
  obtain ⟨t, ht⟩ : ∃ t, t = (bytesH h).getD (i / 8) 0 := ⟨_, rfl⟩
  rw [← hget, ← ht] at x0
  have ht6 : t < 256 := by rw [ht]; exact getD_lt (bytesH_bd h) _
  have hbe : bitL (bytesH h) i = t / 2 ^ (7 - i % 8) % 2 := by rw [ht]; rfl
  have HB : Hid (Below w.heap.size w w1) := by show Below _ _ _; exact (((Below.refl _ _).alloc (Nat.le_refl _) _).alloc (by simp) _).trans (b1.mono (by simp; omega))
  have HR : Hid (RowB w1 (w.heap.size + 1 + 1) (.slice (some ⟨g, 0, none⟩) 13 cap) (bytesH h)) := by show RowB _ _ _ _; simpa using r1
  obtain ⟨hc1, hf1⟩ := bcell b1
  have q0 : ∀ j, j < 5 → (w1.cell? ⟨w.heap.size + 1, j, none⟩).isSome = true := by
    intro j hj
    rw [hc1 _ _ (by simp)]
    match j, hj with
    | 0, _ => simp [go_sem]
    | 1, _ => simp [go_sem]
    | 2, _ => simp [go_sem]
    | 3, _ => simp [go_sem]
    | 4, _ => simp [go_sem]
  have f0 : ∀ j, w1.frozen? ⟨w.heap.size + 1, j, none⟩ = false := fun j => by rw [hf1 _ _ (by simp)]; simp [go_sem]
  obtain ⟨K, hK⟩ : ∃ K : Nat, K = 2 ^ (7 - i % 8) := ⟨_, rfl⟩
  have hK8 : K ≤ 128 := by
    have : 2 ^ (7 - i % 8) ≤ 2 ^ 7 := Nat.pow_le_pow_right (by decide) (by omega)
    omega
  have hKi : (2 : Int) ^ (7 - i % 8) % 256 = (K : Int) := by
    have e : (2 : Int) ^ (7 - i % 8) = (K : Int) := by rw [hK]; simp
    rw [e]; omega
  have hfl := flip_go t ht6 (7 - i % 8) (by omega)
  rw [← hK] at hfl hbe
  have hKi8 : (K : Int) ≤ 128 := by omega
  clear hc1 hf1 b1 hat hcell hget r1 hK
  rcases (show t / K % 2 = 1 ∨ t / K % 2 = 0 by omega) with hb1 | hb1
  · obtain ⟨hfx, hle⟩ := hfl.1 hb1
    obtain ⟨x, hx⟩ : ∃ x, x = flipB t (7 - i % 8) := ⟨_, rfl⟩
    have hxi : (t : Int) - (K : Int) = (x : Int) := by omega
    have hKt : (K : Int) ≤ (t : Int) := by omega
    have ht' : (t : Int) < 256 := by omega
    rw [hb1] at hbe
    rw [hbe] at hbt
    clear hfl hfx hbe hle hb1
    have HL : Hid ((bytesH h).set (i / 8) x = turnL (bytesH h) i) := by show _ = _; unfold turnL; rw [hx, ← ht]
    have hp := HR.out.put (i / 8) x
    rw [HL.out] at hp
    have hs := hp.1.src
    have hz2 := hp.2.size
    have HB2 : Hid (Below w.heap.size w (w1.setCell ⟨g, i / 8, none⟩ (.int .u8 (x : Int)))) := by show Below _ _ _; exact HB.out.setCell (by show w.heap.size ≤ g; omega) _
    have q1 : ∀ j, j < 5 → ((w1.setCell ⟨g, i / 8, none⟩ (.int .u8 (x : Int))).cell? ⟨w.heap.size + 1, j, none⟩).isSome = true := fun j hj => by rw [World.cell?_setCell_other _ _ _ _ (by simp <;> omega)]; exact q0 j hj
    have f1 : ∀ j, (w1.setCell ⟨g, i / 8, none⟩ (.int .u8 (x : Int))).frozen? ⟨w.heap.size + 1, j, none⟩ = false := fun j => by rw [World.frozen?_setCell]; exact f0 j
    have hun := runpC (turnL (bytesH h) i) _ _ hs (by rw [turnL_length]; rfl) (turnL_bd (bytesH_bd h) i)
    change Calls _ _ _ _ (fun e w' => e = .returned (.tuple #[.agg #[.int .u32 ((turnH h i).s : Int), .int .u32 ((turnH h i).d : Int), .int .u16 ((turnH h i).p : Int), .int .u16 ((turnH h i).q : Int), .int .u8 ((turnH h i).r : Int)], .int .i64 0]) ∧ _) at hun
    rw [← HH.out] at hun
    have hsz : (w1.setCell ⟨g, i / 8, none⟩ (.int .u8 (x : Int))).heap.size = w1.heap.size := by simp
    generalize hW2 : w1.setCell ⟨g, i / 8, none⟩ (.int .u8 (x : Int)) = W2 at *
    have HW2 : Hid (w1.setCell ⟨g, i / 8, none⟩ (.int .u8 (x : Int)) = W2) := hW2
    clear hp HR HL hs hx ht q0 f0 HB
    go_wp2_with (fail)
    refine hbt.mono ?_
    rintro e w' ⟨rfl, hw⟩
    obtain rfl := hw.symm
    clear hw hbt
    go_wp2_with (fail)
    refine hun.mono ?_
    rintro e w3 ⟨rfl, hb3⟩
    have q2 : ∀ j, j < 5 → (w3.cell? ⟨w.heap.size + 1, j, none⟩).isSome = true := fun j hj => by rw [hb3.cell (by show w.heap.size + 1 < _; omega)]; exact q1 j hj
    have f2 : ∀ j, w3.frozen? ⟨w.heap.size + 1, j, none⟩ = false := fun j => by rw [hb3.frozen (by show w.heap.size + 1 < _; omega)]; exact f1 j
    obtain ⟨a0, e0⟩ := Option.isSome_iff_exists.1 (q2 0 (by omega))
    obtain ⟨a1, e1⟩ := Option.isSome_iff_exists.1 (q2 1 (by omega))
    obtain ⟨a2, e2⟩ := Option.isSome_iff_exists.1 (q2 2 (by omega))
    obtain ⟨a3, e3⟩ := Option.isSome_iff_exists.1 (q2 3 (by omega))
    obtain ⟨a4, e4⟩ := Option.isSome_iff_exists.1 (q2 4 (by omega))
    have HB3 : Hid (Below w.heap.size w w3) := HB2.out.trans (hb3.mono (by omega))
    clear hb3 q1 f1 q2 hun hW2 HW2
    go_wp2
    exact bodyPost_ret (v := .tuple #[.agg #[.int .u32 (H.s : Int), .int .u32 (H.d : Int), .int .u16 (H.p : Int), .int .u16 (H.q : Int), .int .u8 (H.r : Int)], .int .i64 0]) (by simp [results, Try.results18, go_sem, e0, e1, e2, e3, e4, f2]) rfl ⟨rfl, by (iterate 5 (refine Below.setCell ?_ (Nat.le_succ _) _)); exact HB3.out⟩
  · obtain ⟨hfx, hle⟩ := hfl.2 hb1
    obtain ⟨x, hx⟩ : ∃ x, x = flipB t (7 - i % 8) := ⟨_, rfl⟩
    have hxi : (t : Int) + (K : Int) = (x : Int) := by omega
    have hKt : (t : Int) + (K : Int) < 256 := by omega
    rw [hb1] at hbe
    rw [hbe] at hbt
    clear hfl hfx hbe hle hb1
    have HL : Hid ((bytesH h).set (i / 8) x = turnL (bytesH h) i) := by show _ = _; unfold turnL; rw [hx, ← ht]
    have hp := HR.out.put (i / 8) x
    rw [HL.out] at hp
    have hs := hp.1.src
    have hz2 := hp.2.size
    have HB2 : Hid (Below w.heap.size w (w1.setCell ⟨g, i / 8, none⟩ (.int .u8 (x : Int)))) := by show Below _ _ _; exact HB.out.setCell (by show w.heap.size ≤ g; omega) _
    have q1 : ∀ j, j < 5 → ((w1.setCell ⟨g, i / 8, none⟩ (.int .u8 (x : Int))).cell? ⟨w.heap.size + 1, j, none⟩).isSome = true := fun j hj => by rw [World.cell?_setCell_other _ _ _ _ (by simp <;> omega)]; exact q0 j hj
    have f1 : ∀ j, (w1.setCell ⟨g, i / 8, none⟩ (.int .u8 (x : Int))).frozen? ⟨w.heap.size + 1, j, none⟩ = false := fun j => by rw [World.frozen?_setCell]; exact f0 j
    have hun := runpC (turnL (bytesH h) i) _ _ hs (by rw [turnL_length]; rfl) (turnL_bd (bytesH_bd h) i)
    change Calls _ _ _ _ (fun e w' => e = .returned (.tuple #[.agg #[.int .u32 ((turnH h i).s : Int), .int .u32 ((turnH h i).d : Int), .int .u16 ((turnH h i).p : Int), .int .u16 ((turnH h i).q : Int), .int .u8 ((turnH h i).r : Int)], .int .i64 0]) ∧ _) at hun
    rw [← HH.out] at hun
    have hsz : (w1.setCell ⟨g, i / 8, none⟩ (.int .u8 (x : Int))).heap.size = w1.heap.size := by simp
    generalize hW2 : w1.setCell ⟨g, i / 8, none⟩ (.int .u8 (x : Int)) = W2 at *
    have HW2 : Hid (w1.setCell ⟨g, i / 8, none⟩ (.int .u8 (x : Int)) = W2) := hW2
    clear hp HR HL hs hx ht q0 f0 HB
    go_wp2_with (fail)
    refine hbt.mono ?_
    rintro e w' ⟨rfl, hw⟩
    obtain rfl := hw.symm
    clear hw hbt
    go_wp2_with (fail)
    refine hun.mono ?_
    rintro e w3 ⟨rfl, hb3⟩
    have q2 : ∀ j, j < 5 → (w3.cell? ⟨w.heap.size + 1, j, none⟩).isSome = true := fun j hj => by rw [hb3.cell (by show w.heap.size + 1 < _; omega)]; exact q1 j hj
    have f2 : ∀ j, w3.frozen? ⟨w.heap.size + 1, j, none⟩ = false := fun j => by rw [hb3.frozen (by show w.heap.size + 1 < _; omega)]; exact f1 j
    obtain ⟨a0, e0⟩ := Option.isSome_iff_exists.1 (q2 0 (by omega))
    obtain ⟨a1, e1⟩ := Option.isSome_iff_exists.1 (q2 1 (by omega))
    obtain ⟨a2, e2⟩ := Option.isSome_iff_exists.1 (q2 2 (by omega))
    obtain ⟨a3, e3⟩ := Option.isSome_iff_exists.1 (q2 3 (by omega))
    obtain ⟨a4, e4⟩ := Option.isSome_iff_exists.1 (q2 4 (by omega))
    have HB3 : Hid (Below w.heap.size w w3) := HB2.out.trans (hb3.mono (by omega))
    clear hb3 q1 f1 q2 hun hW2 HW2
    go_wp2
    exact bodyPost_ret (v := .tuple #[.agg #[.int .u32 (H.s : Int), .int .u32 (H.d : Int), .int .u16 (H.p : Int), .int .u16 (H.q : Int), .int .u8 (H.r : Int)], .int .i64 0]) (by simp [results, Try.results18, go_sem, e0, e1, e2, e3, e4, f2]) rfl ⟨rfl, by (iterate 5 (refine Below.setCell ?_ (Nat.le_succ _) _)); exact HB3.out⟩
end Go.Proofs.Ytpgadbiohmofeaa
