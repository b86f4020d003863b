/-
  Common of package prefix.
-/
import Derived.Test.YtegkkekbgndmpaaPxL
namespace Go.Proofs.Ytegkkekbgndmpaa
open Go.RowKit
set_option linter.unusedVariables false
set_option linter.unusedSimpArgs false
attribute [local go_sem ↓] Go.wp_at_zero Go.wp_at_succ

set_option maxHeartbeats 1000000 in
theorem common_no (a : Nat) (n : Int) (b : Nat) (m : Int) (w : World) (ha : a < 4294967296) (hb : b < 4294967296) (h : cE a n b m ≠ 0) :
    Calls Try.prog 20 #[.agg #[.int .u32 a, .int .i64 n], .agg #[.int .u32 b, .int .i64 m]] w fun e w' => e = .returned (.tuple #[.agg #[.int .u32 (cA a n b m : Int), .int .i64 (cN a n b m : Int)], .int .i64 (cE a n b m)]) ∧ Below w.heap.size w w' := by
  rw [show (cA a n b m : Int) = 0 by simp [cA, h], show (cN a n b m : Int) = 0 by simp [cN, h]]
  have ho : orI (chk a n) (chk b m) = cE a n b m := rfl
  have h' : (cE a n b m != 0) = true := by simpa using h
  have ne1 : ¬ w.heap.size + 1 + 1 = w.heap.size := by omega
  have ne2 : ¬ w.heap.size = w.heap.size + 1 + 1 := by omega
  go_enter Try.func20, Try.ntmps20
  go_wp2
  go_region_held3 (fun w' => w'.cell? ⟨w.heap.size, 0, none⟩ = some (.int .u32 a) ∧ w'.cell? ⟨w.heap.size, 1, none⟩ = some (.int .i64 n) ∧ w'.cell? ⟨w.heap.size + 1, 0, none⟩ = some (.int .u32 b) ∧ w'.cell? ⟨w.heap.size + 1, 1, none⟩ = some (.int .i64 m)) (first | exact ⟨q0, q1, q2, q3⟩ | go_keep) (first | (go_at_call 18; refine (check_any _ _ _ ?_).mono ?_; assumption; rintro e w1 ⟨rfl, hb1⟩; obtain ⟨hc1, hf1⟩ := bcell hb1; have hz1 := hb1.size; (try simp at hz1); have l0 : w.heap.size < w1.heap.size := (by first | omega | (simp at hz1 <;> omega)); have l1 : w.heap.size + 1 < w1.heap.size := (by first | omega | (simp at hz1 <;> omega)); have l2 : w.heap.size + 1 + 1 < w1.heap.size := (by first | omega | (simp at hz1 <;> omega)); have q0 : w1.cell? ⟨w.heap.size, 0, none⟩ = some (.int .u32 a) := (by rw [hc1 _ _ (by first | omega | (simp <;> omega))]; simp [go_sem, *]); have q1 : w1.cell? ⟨w.heap.size, 1, none⟩ = some (.int .i64 n) := (by rw [hc1 _ _ (by first | omega | (simp <;> omega))]; simp [go_sem, *]); have q2 : w1.cell? ⟨w.heap.size + 1, 0, none⟩ = some (.int .u32 b) := (by rw [hc1 _ _ (by first | omega | (simp <;> omega))]; simp [go_sem, *]); have q3 : w1.cell? ⟨w.heap.size + 1, 1, none⟩ = some (.int .i64 m) := (by rw [hc1 _ _ (by first | omega | (simp <;> omega))]; simp [go_sem, *]); have q4 : w1.cell? ⟨w.heap.size + 1 + 1, 0, none⟩ = some (.int .u32 0) := (by rw [hc1 _ _ (by first | omega | (simp <;> omega))]; simp [go_sem, *]); have q5 : w1.cell? ⟨w.heap.size + 1 + 1, 1, none⟩ = some (.int .i64 0) := (by rw [hc1 _ _ (by first | omega | (simp <;> omega))]; simp [go_sem, *]); have q6 : w1.frozen? ⟨w.heap.size + 1 + 1, 0, none⟩ = false := (by rw [hf1 _ _ (by first | omega | (simp <;> omega))]; simp [go_sem, *]); have q7 : w1.frozen? ⟨w.heap.size + 1 + 1, 1, none⟩ = false := (by rw [hf1 _ _ (by first | omega | (simp <;> omega))]; simp [go_sem, *])) | (go_at_call 37; refine (orE_any (chk a n) (chk b m) _ _ ?_ ?_).mono ?_; (simp [go_sem]); (simp [go_sem]); rintro e w' ⟨rfl, hw⟩; obtain rfl := hw.symm; clear hw))
  go_wp2
  exact bodyPost_ret (v := .tuple #[.agg #[.int .u32 0, .int .i64 0], .int .i64 (cE a n b m)]) (by simp [results, Try.results20, go_sem, *]) rfl ⟨rfl, by (repeat (first | assumption | exact Below.refl _ _ | refine Below.drew ?_ | refine bel_drewN ?_ _ | refine Below.setCell ?_ (by first | omega | (simp; done) | (simp; omega)) _ | refine Below.alloc ?_ (by first | omega | (simp; done) | (simp; omega)) _ | refine bel_of ?_ (by assumption)))⟩
set_option maxHeartbeats 2000000 in
theorem common_yes (a n b m : Nat) (w : World) (ha : a < 4294967296) (hb : b < 4294967296) (hn : n ≤ 32) (hm : m ≤ 32) (ka : chk a (n : Int) = 0) (kb : chk b (m : Int) = 0) :
    Calls Try.prog 20 #[.agg #[.int .u32 a, .int .i64 n], .agg #[.int .u32 b, .int .i64 m]] w fun e w' => e = .returned (.tuple #[.agg #[.int .u32 (ct a (min (min n m) (lz a b)) : Int), .int .i64 ((min (min n m) (lz a b) : Nat) : Int)], .int .i64 0]) ∧ Below w.heap.size w w' := by
  have ho : orI 0 0 = 0 := rfl
  have hxor := u32_xor_nat a b ha hb
  have hxl := xor_lt a b ha hb
  have hk : min (min n m) (lz a b) ≤ 32 := by omega
  have HM : Hid (min (min (n : Int) (m : Int)) ((32 - bl (a ^^^ b) : Nat) : Int) = ((min (min n m) (lz a b) : Nat) : Int)) := by show _ = _; unfold lz; omega
  have ne1 : ¬ w.heap.size + 1 + 1 = w.heap.size := by omega
  have ne2 : ¬ w.heap.size = w.heap.size + 1 + 1 := by omega
  go_enter Try.func20, Try.ntmps20
  go_wp2
  go_region_held3 (fun w' => w'.cell? ⟨w.heap.size, 0, none⟩ = some (.int .u32 a) ∧ w'.cell? ⟨w.heap.size, 1, none⟩ = some (.int .i64 n) ∧ w'.cell? ⟨w.heap.size + 1, 0, none⟩ = some (.int .u32 b) ∧ w'.cell? ⟨w.heap.size + 1, 1, none⟩ = some (.int .i64 m)) (first | exact ⟨q0, q1, q2, q3⟩ | go_keep) (first | (go_at_call 18; refine (check_any _ _ _ ?_).mono ?_; assumption; rintro e w1 ⟨rfl, hb1⟩; obtain ⟨hc1, hf1⟩ := bcell hb1; have hz1 := hb1.size; (try simp at hz1); have l0 : w.heap.size < w1.heap.size := (by first | omega | (simp at hz1 <;> omega)); have l1 : w.heap.size + 1 < w1.heap.size := (by first | omega | (simp at hz1 <;> omega)); have l2 : w.heap.size + 1 + 1 < w1.heap.size := (by first | omega | (simp at hz1 <;> omega)); have q0 : w1.cell? ⟨w.heap.size, 0, none⟩ = some (.int .u32 a) := (by rw [hc1 _ _ (by first | omega | (simp <;> omega))]; simp [go_sem, *]); have q1 : w1.cell? ⟨w.heap.size, 1, none⟩ = some (.int .i64 n) := (by rw [hc1 _ _ (by first | omega | (simp <;> omega))]; simp [go_sem, *]); have q2 : w1.cell? ⟨w.heap.size + 1, 0, none⟩ = some (.int .u32 b) := (by rw [hc1 _ _ (by first | omega | (simp <;> omega))]; simp [go_sem, *]); have q3 : w1.cell? ⟨w.heap.size + 1, 1, none⟩ = some (.int .i64 m) := (by rw [hc1 _ _ (by first | omega | (simp <;> omega))]; simp [go_sem, *]); have q4 : w1.cell? ⟨w.heap.size + 1 + 1, 0, none⟩ = some (.int .u32 0) := (by rw [hc1 _ _ (by first | omega | (simp <;> omega))]; simp [go_sem, *]); have q5 : w1.cell? ⟨w.heap.size + 1 + 1, 1, none⟩ = some (.int .i64 0) := (by rw [hc1 _ _ (by first | omega | (simp <;> omega))]; simp [go_sem, *]); have q6 : w1.frozen? ⟨w.heap.size + 1 + 1, 0, none⟩ = false := (by rw [hf1 _ _ (by first | omega | (simp <;> omega))]; simp [go_sem, *]); have q7 : w1.frozen? ⟨w.heap.size + 1 + 1, 1, none⟩ = false := (by rw [hf1 _ _ (by first | omega | (simp <;> omega))]; simp [go_sem, *])) | (go_at_call 37; refine (orE_any 0 0 _ _ ?_ ?_).mono ?_; (simp [go_sem]); (simp [go_sem]); rintro e w' ⟨rfl, hw⟩; obtain rfl := hw.symm; clear hw))
  go_wp2_with (first | (go_at_call 38; refine (lz32_any (a ^^^ b) _ hxl).mono ?_; rintro e w' ⟨rfl, hw⟩; obtain rfl := hw.symm; clear hw))
  · have hK : min (min n m) (lz a b) = 32 - bl (a ^^^ b) := by unfold lz; omega
    have HK : Hid (min (min n m) (lz a b) = _) := hK
    clear hK
    refine (first_any a (32 - bl (a ^^^ b)) _ ha (by omega)).mono ?_
    rintro e w2 ⟨rfl, hb2⟩
    obtain ⟨hc2, hf2⟩ := bcell hb2
    have hz2 := hb2.size
    simp at hz2
    have l2' : w.heap.size + 1 + 1 < w1.heap.size + 1 := by omega
    go_wp2
    exact bodyPost_ret (v := .tuple #[.agg #[.int .u32 (ct a (32 - bl (a ^^^ b)) : Int), .int .i64 ((32 - bl (a ^^^ b) : Nat) : Int)], .int .i64 0]) (by simp [results, Try.results20, go_sem, *]) rfl ⟨by rw [HK.out], by (repeat (first | assumption | exact Below.refl _ _ | refine Below.drew ?_ | refine bel_drewN ?_ _ | refine Below.setCell ?_ (by first | omega | (simp; done) | (simp; omega)) _ | refine Below.alloc ?_ (by first | omega | (simp; done) | (simp; omega)) _ | refine bel_of ?_ (by assumption)))⟩
  · have hK : min (min n m) (lz a b) = m := by unfold lz; omega
    have HK : Hid (min (min n m) (lz a b) = _) := hK
    clear hK
    refine (first_any a (m) _ ha (by omega)).mono ?_
    rintro e w2 ⟨rfl, hb2⟩
    obtain ⟨hc2, hf2⟩ := bcell hb2
    have hz2 := hb2.size
    simp at hz2
    have l2' : w.heap.size + 1 + 1 < w1.heap.size + 1 := by omega
    go_wp2
    exact bodyPost_ret (v := .tuple #[.agg #[.int .u32 (ct a (m) : Int), .int .i64 ((m : Nat) : Int)], .int .i64 0]) (by simp [results, Try.results20, go_sem, *]) rfl ⟨by rw [HK.out], by (repeat (first | assumption | exact Below.refl _ _ | refine Below.drew ?_ | refine bel_drewN ?_ _ | refine Below.setCell ?_ (by first | omega | (simp; done) | (simp; omega)) _ | refine Below.alloc ?_ (by first | omega | (simp; done) | (simp; omega)) _ | refine bel_of ?_ (by assumption)))⟩
  · have hK : min (min n m) (lz a b) = n := by unfold lz; omega
    have HK : Hid (min (min n m) (lz a b) = _) := hK
    clear hK
    refine (first_any a (n) _ ha (by omega)).mono ?_
    rintro e w2 ⟨rfl, hb2⟩
    obtain ⟨hc2, hf2⟩ := bcell hb2
    have hz2 := hb2.size
    simp at hz2
    have l2' : w.heap.size + 1 + 1 < w1.heap.size + 1 := by omega
    go_wp2
    exact bodyPost_ret (v := .tuple #[.agg #[.int .u32 (ct a (n) : Int), .int .i64 ((n : Nat) : Int)], .int .i64 0]) (by simp [results, Try.results20, go_sem, *]) rfl ⟨by rw [HK.out], by (repeat (first | assumption | exact Below.refl _ _ | refine Below.drew ?_ | refine bel_drewN ?_ _ | refine Below.setCell ?_ (by first | omega | (simp; done) | (simp; omega)) _ | refine Below.alloc ?_ (by first | omega | (simp; done) | (simp; omega)) _ | refine bel_of ?_ (by assumption)))⟩
theorem common_any (a : Nat) (n : Int) (b : Nat) (m : Int) (w : World) (ha : a < 4294967296) (hb : b < 4294967296) :
    Calls Try.prog 20 #[.agg #[.int .u32 a, .int .i64 n], .agg #[.int .u32 b, .int .i64 m]] w fun e w' => e = .returned (.tuple #[.agg #[.int .u32 (cA a n b m : Int), .int .i64 (cN a n b m : Int)], .int .i64 (cE a n b m)]) ∧ Below w.heap.size w w' := by
  by_cases h : cE a n b m = 0
  · have ka : chk a n = 0 := by
      unfold cE at h
      by_cases k : chk a n = 0
      · exact k
      · rw [if_neg k] at h; exact h
    have kb : chk b m = 0 := by unfold cE at h; rw [if_pos ka] at h; exact h
    obtain ⟨n', rfl, hn, _⟩ := chk_ok ka
    obtain ⟨m', rfl, hm, _⟩ := chk_ok kb
    have e1 : cN a n' b m' = min (min n' m') (lz a b) := by simp [cN, h]
    have e2 : cA a n' b m' = ct a (min (min n' m') (lz a b)) := by rw [← e1]; simp [cA, h]
    rw [e2, e1, h]
    exact common_yes a n' b m' w ha hb hn hm ka kb
  · exact common_no a n b m w ha hb h
end Go.Proofs.Ytegkkekbgndmpaa
