/-
  Laying a point, and At.
-/
import Derived.Test.YtlfdlifmcabfjaaCvA
namespace Go.Proofs.Ytlfdlifmcabfjaa
open Go.RowKit
set_option linter.unusedVariables false
set_option linter.unusedSimpArgs false

theorem c_add (x y u v : Int) (t : TypeId) (W : World) (hx : 0 ≤ x ∧ x ≤ 131072) (hy : 0 ≤ y ∧ y ≤ 131072) (hu : 0 ≤ u ∧ u ≤ 131072) (hv : 0 ≤ v ∧ v ≤ 131072) : (binOp .add t (.complex .f64 (FL x) (FL y)) (.complex .f64 (FL u) (FL v))).run Try.prog W = .ok (.complex .f64 (FL (x + u)) (FL (y + v))) W :=
  run_complex_sum _ _ (.inl rfl) _ _ _ _ _ _ _ _ (by unfold cSumBits; rw [add_FL (by omega) (by omega), add_FL (by omega) (by omega)]; rfl)
theorem c_sub (x y u v : Int) (t : TypeId) (W : World) (hx : 0 ≤ x ∧ x ≤ 131072) (hy : 0 ≤ y ∧ y ≤ 131072) (hu : 0 ≤ u ∧ u ≤ 131072) (hv : 0 ≤ v ∧ v ≤ 131072) : (binOp .sub t (.complex .f64 (FL x) (FL y)) (.complex .f64 (FL u) (FL v))).run Try.prog W = .ok (.complex .f64 (FL (x - u)) (FL (y - v))) W :=
  run_complex_sum _ _ (.inr rfl) _ _ _ _ _ _ _ _ (by unfold cSumBits; rw [sub_FL (by omega) (by omega), sub_FL (by omega) (by omega)]; rfl)
theorem lay_any (x y q h : Int) (w : World) (hq : q = 0 ∨ q = 1 ∨ q = 2 ∨ q = 3) (h0 : 1 ≤ h) (h1 : h ≤ 65536) (hx : 0 ≤ x ∧ x < h) (hy : 0 ≤ y ∧ y < h) :
    Calls Try.prog 26 #[CX x y, .int .i64 q, .float .f64 (FL h)] w fun e w' => e = .returned (CX (layP h q (x, y)).1 (layP h q (x, y)).2) ∧ w' = w := by
  rcases hq with rfl | rfl | rfl | rfl
  · go_enter Try.func26, Try.ntmps26
    go_wp2
    go_ret
    exact ⟨rfl, rfl⟩
  · have e1 := fun t W => c_add x y 0 h t W (by omega) (by omega) (by omega) (by omega)
    rw [fl0, Int.add_zero] at e1
    go_enter Try.func26, Try.ntmps26
    go_wp2
    go_ret
    exact ⟨rfl, rfl⟩
  · have e1 := fun t W => c_add x y h h t W (by omega) (by omega) (by omega) (by omega)
    go_enter Try.func26, Try.ntmps26
    go_wp2
    go_ret
    exact ⟨rfl, rfl⟩
  · have e1 := fun t W => c_sub (2 * h - 1) (h - 1) y x t W (by omega) (by omega) (by omega) (by omega)
    have e2 := fun W => corner_any h W h0 h1
    go_enter Try.func26, Try.ntmps26
    go_wp2_with (first | (go_at_call 41; refine (e2 _).mono ?_; rintro e w' ⟨rfl, rfl⟩) | (go_at_call 40; refine (mirror_any _ _ _).mono ?_; rintro e w' ⟨rfl, rfl⟩))
    go_ret
    exact ⟨rfl, rfl⟩
theorem pow_le4 {k : Nat} (h : k ≤ 16) : (4 : Int) ^ k ≤ 4294967296 := by
  have : (4 : Nat) ^ k ≤ 4 ^ 16 := Nat.pow_le_pow_right (by omega) h
  have h' : ((4 ^ k : Nat) : Int) ≤ ((4 ^ 16 : Nat) : Int) := Int.ofNat_le.2 this
  simpa using h'
theorem at_order (n p : Int) (w : World) (h : n < 1 ∨ 16 < n) :
    Calls Try.prog 9 #[.int .i64 n, .int .i64 p] w fun e w' => e = .returned (.tuple #[.complex .f64 0 0, .int .i64 130]) ∧ w' = w := by
  go_enter Try.func9, Try.ntmps9
  go_wp2_with (go_at_call 25; refine (isOrder_no _ _ h).mono ?_; rintro e w' ⟨rfl, rfl⟩)
  go_ret2
  exact ⟨rfl, rfl⟩
theorem at_below (n : Nat) (p : Int) (w : World) (h1 : 1 ≤ n) (h2 : n ≤ 16) (hp : p < 0) :
    Calls Try.prog 9 #[.int .i64 (n : Int), .int .i64 p] w fun e w' => e = .returned (.tuple #[.complex .f64 0 0, .int .i64 131]) ∧ w' = w := by
  go_enter Try.func9, Try.ntmps9
  go_wp2_with (go_at_call 25; refine (isOrder_yes _ _ (by omega) (by omega)).mono ?_; rintro e w' ⟨rfl, rfl⟩)
  go_ret2
  exact ⟨rfl, rfl⟩
theorem four_sq (n : Nat) : (2 : Int) ^ (2 * n) = 4 ^ n := by rw [Int.pow_mul]; rfl
theorem at_above (n : Nat) (p : Int) (w : World) (h1 : 1 ≤ n) (h2 : n ≤ 16) (hp : 4 ^ n ≤ p) (hb : p ≤ 9223372036854775807) :
    Calls Try.prog 9 #[.int .i64 (n : Int), .int .i64 p] w fun e w' => e = .returned (.tuple #[.complex .f64 0 0, .int .i64 131]) ∧ w' = w := by
  have hN := four_pos n
  have hp0 : 0 ≤ p := by omega
  have hz : ¬ p / 2 ^ (2 * n) = 0 := by
    rw [four_sq]
    have := Int.le_ediv_of_mul_le (a := 1) (b := p) (c := 4 ^ n) (by omega) (by omega)
    omega
  have hz' : (p / 2 ^ (2 * n) != 0) = true := by simpa using hz
  clear hN hp hz
  go_enter Try.func9, Try.ntmps9
  go_wp2_with (go_at_call 25; refine (isOrder_yes _ _ (by omega) (by omega)).mono ?_; rintro e w' ⟨rfl, rfl⟩)
  go_ret2
  exact ⟨rfl, rfl⟩
theorem hil_shr (p : Int) (k : Nat) : p / 4 ^ k / 4 = p / 4 ^ (k + 1) := by
  rw [Int.pow_succ, Int.ediv_ediv_of_nonneg (by have := four_pos k; omega)]
set_option maxHeartbeats 1000000 in
theorem at_ok (n : Nat) (p : Int) (w : World) (h1 : 1 ≤ n) (h2 : n ≤ 16) (hp : 0 ≤ p) (hb : p < 4 ^ n) :
    Calls Try.prog 9 #[.int .i64 (n : Int), .int .i64 p] w fun e w' => e = .returned (.tuple #[CX (hil n p).1 (hil n p).2, .int .i64 0]) ∧ w' = w := by
  have hN := four_pos n
  have h4 := pow_le4 h2
  have hz : p / 2 ^ (2 * n) = 0 := by rw [four_sq]; exact Int.ediv_eq_zero_of_lt hp hb
  have hp4 : p < 4294967296 := by omega
  have HB : Hid (p < 4 ^ n) := hb
  clear hN h4 hb
  go_enter Try.func9, Try.ntmps9
  go_wp2_with (go_at_call 25; refine (isOrder_yes _ _ (by omega) (by omega)).mono ?_; rintro e w' ⟨rfl, rfl⟩)
  go_loop [1, 6, 21] (fun q z i => ∃ k : Nat, k ≤ n ∧ i = .int .i64 (k : Int) ∧ q = .int .i64 (p / 4 ^ k) ∧ z = CX (hil k (p % 4 ^ k)).1 (hil k (p % 4 ^ k)).2) (fun _ _ i => n - (intOf i).toNat)
  case atStart => exact ⟨0, Nat.zero_le _, rfl, by simp, by simp [hil, fl0]⟩
  case round =>
    obtain ⟨k, hk, rfl, rfl, rfl⟩ := hrel
    have hN := four_pos k
    have hq0 : 0 ≤ p / 4 ^ k := Int.ediv_nonneg hp (by omega)
    have hq1 : p / 4 ^ k < 4294967296 := Int.lt_of_le_of_lt (Int.ediv_le_self _ hp) hp4
    by_cases hlt : k < n
    · have hd : p / 4 ^ k % 4 = 0 ∨ p / 4 ^ k % 4 = 1 ∨ p / 4 ^ k % 4 = 2 ∨ p / 4 ^ k % 4 = 3 := by omega
      have hsq := hil_sq k (p % 4 ^ k) (Int.emod_nonneg _ (by omega)) (Int.emod_lt_of_pos _ (by omega))
      have L := fun W => lay_any (hil k (p % 4 ^ k)).1 (hil k (p % 4 ^ k)).2 (p / 4 ^ k % 4) (2 ^ k) W hd (two_pos k) (pow_le16 (by omega)) ⟨hsq.1, hsq.2.1⟩ ⟨hsq.2.2.1, hsq.2.2.2⟩
      have HL : Hid (hil (k + 1) (p % 4 ^ (k + 1)) = layP (2 ^ k) (p / 4 ^ k % 4) (hil k (p % 4 ^ k))) := hil_low k p hp
      have HS : Hid (p / 4 ^ k / 4 = p / 4 ^ (k + 1)) := hil_shr p k
      clear hN hsq hd hz
      go_wp2_with (first | (go_at_call 27; refine (side_any k _ (by omega)).mono ?_; rintro e w' ⟨rfl, rfl⟩) | (go_at_call 26; refine (L _).mono ?_; rintro e w' ⟨rfl, rfl⟩))
      go_round
      case rel => exact ⟨k + 1, by omega, by go_num, by rw [HS.out], by rw [HL.out]⟩
      case measure => simp [intOf]; omega
    · have hkn : k = n := by omega
      subst hkn
      have HE : Hid (p % 4 ^ k = p) := Int.emod_eq_of_lt hp HB.out
      go_wp2
      go_ret2
      exact ⟨by rw [HE.out]; rfl, rfl⟩
end Go.Proofs.Ytlfdlifmcabfjaa
