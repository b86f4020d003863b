/-
  Trunc, isWithin, take, Place.
-/
import Derived.Test.YtlfdlifmcabfjaaCvB
import Derived.Test.YtlfdlifmcabfjaaCvG
namespace Go.Proofs.Ytlfdlifmcabfjaa
open Go.RowKit
set_option linter.unusedVariables false
set_option linter.unusedSimpArgs false

theorem run_trunc (b : Nat) (w : World) {s : Bool} {m : Nat} {i : Int} (h : Ieee.double.read b = .number s m i) : (Extern.MathFloor.toIntegral "math.archTrunc" .zero #[.float .f64 b]).run Try.prog w = .ok (.float .f64 (Ieee.double.write ((Ieee.double.read b).integral .zero))) w := by
  have e : FloatKind.f64.decode b = .number s m i := h
  rw [h]
  change Sem.run Try.prog (Extern.MathFloor.toIntegral.match_1 (fun _ => Sem Value) (FloatKind.f64.decode b) _ _) w = _
  rw [e]
  rfl
set_option maxRecDepth 20000 in
theorem trunc_any (b : Nat) (w : World) {s : Bool} {m : Nat} {i : Int} (h : Ieee.double.read b = .number s m i) :
    Calls Try.prog 42 #[.float .f64 b] w fun e w' => e = .returned (.float .f64 (Ieee.double.write ((Ieee.double.read b).integral .zero))) ∧ w' = w := by
  have hr := run_trunc b w h
  generalize Ieee.double.write ((Ieee.double.read b).integral .zero) = R at *
  go_enter Try.func42, Try.ntmps42
  go_wp2
  rw [run_callFunc_extern Try.func46 (by kernel_rfl) (by kernel_rfl) (by kernel_rfl) (e := Extern.MathFloor.toIntegral "math.archTrunc" .zero) (by kernel_rfl), hr]
  simp only [Result.andThen]
  rw [Oper.upon_value]
  go_wp2
  go_ret
  exact ⟨rfl, rfl⟩
theorem sm_f64 : FloatKind.f64.format = Ieee.double := rfl
theorem within_any (n : Nat) (b : Nat) (w : World) (hn : n ≤ 16) :
    Calls Try.prog 29 #[.float .f64 b, .int .i64 (n : Int)] w fun e w' => e = .returned (.bool (wh n b).isSome) ∧ w' = w := by
  cases h0 : ge0 b
  · have hz : (wh n b).isSome = false := by unfold wh; rw [h0]; rfl
    rw [hz]
    have h0' : (FloatKind.f64.format.order b 0 == some .gt || FloatKind.f64.format.order b 0 == some .eq) = false := h0
    clear hz h0
    go_enter Try.func29, Try.ntmps29
    go_wp2
    go_ret
    exact ⟨rfl, rfl⟩
  · have h0' : (FloatKind.f64.format.order b 0 == some .gt || FloatKind.f64.format.order b 0 == some .eq) = true := h0
    cases h1 : ltN n b
    · have hz : (wh n b).isSome = false := by unfold wh; rw [h0, h1]; rfl
      rw [hz]
      have h1' : (FloatKind.f64.format.order b (FL (2 ^ n)) == some .lt) = false := h1
      clear hz h0 h1
      go_enter Try.func29, Try.ntmps29
      go_wp2_with (go_at_call 27; refine (side_any n _ (by omega)).mono ?_; rintro e w' ⟨rfl, rfl⟩)
      go_ret
      exact ⟨rfl, rfl⟩
    · have h1' : (FloatKind.f64.format.order b (FL (2 ^ n)) == some .lt) = true := h1
      have hz : (wh n b).isSome = eqW b := by unfold wh; rw [h0, h1]; cases eqW b <;> rfl
      rw [hz]
      obtain ⟨s, m, i, hr, _, _⟩ := rng_num hn h0 h1
      have hT := (ord_same hn h0 h1 (rng_trunc hn h0 h1)).1
      have T := fun W => trunc_any b W hr
      generalize Ieee.double.write ((Ieee.double.read b).integral .zero) = R at *
      have hT' : (FloatKind.f64.format.order b R == some .eq) = eqW b := hT
      clear hz h0 h1 hr hT
      go_enter Try.func29, Try.ntmps29
      go_wp2_with (first | (go_at_call 27; refine (side_any n _ (by omega)).mono ?_; rintro e w' ⟨rfl, rfl⟩) | (go_at_call 42; refine (T _).mono ?_; rintro e w' ⟨rfl, rfl⟩))
      go_ret
      exact ⟨rfl, rfl⟩
theorem s_wd {a b c d : Nat} {x y u v : Int} (ha : Wd a x) (hb : Wd b y) (hc : Wd c u) (hd : Wd d v) (hx : 0 ≤ x ∧ x ≤ 131072) (hy : 0 ≤ y ∧ y ≤ 131072) (hu : 0 ≤ u ∧ u ≤ 131072) (hv : 0 ≤ v ∧ v ≤ 131072) : ∃ e f, Wd e (x - u) ∧ Wd f (y - v) ∧ ∀ (t : TypeId) (W : World), (binOp .sub t (.complex .f64 a b) (.complex .f64 c d)).run Try.prog W = .ok (.complex .f64 e f) W := by
  obtain ⟨e, h1, h2⟩ := sub_wd ha hc (by omega) (by omega)
  obtain ⟨f, h3, h4⟩ := sub_wd hb hd (by omega) (by omega)
  exact ⟨e, f, h2, h4, fun t W => run_complex_sum _ _ (.inr rfl) _ _ _ _ _ _ _ _ (by unfold cSumBits; rw [h1, h3]; rfl)⟩
theorem take_any (x y h : Int) (a b : Nat) (w : World) (ha : Wd a x) (hb : Wd b y) (h0 : 1 ≤ h) (h1 : h ≤ 65536) (hx : 0 ≤ x ∧ x < 2 * h) (hy : 0 ≤ y ∧ y < 2 * h) :
    Calls Try.prog 30 #[.complex .f64 a b, .float .f64 (FL h)] w fun e w' => ∃ c d, e = .returned (.tuple #[.int .i64 (tkP h (x, y)).1, .complex .f64 c d]) ∧ Wd c (tkP h (x, y)).2.1 ∧ Wd d (tkP h (x, y)).2.2 ∧ w' = w := by
  have hF : Wd (FL h) h := wd_FL (by omega)
  have g1 : (FloatKind.f64.format.order a (FL h) == some .gt || FloatKind.f64.format.order a (FL h) == some .eq) = decide (h ≤ x) := by rw [order_wd ha hF, compare_ge]
  have g2 : (FloatKind.f64.format.order b (FL h) == some .gt || FloatKind.f64.format.order b (FL h) == some .eq) = decide (h ≤ y) := by rw [order_wd hb hF, compare_ge]
  by_cases c1 : h ≤ x
  · by_cases c2 : h ≤ y
    · have ht : tkP h (x, y) = (2, (x - h, y - h)) := by unfold tkP; simp only; rw [if_neg (by omega), if_pos c2]
      rw [ht]
      obtain ⟨e, f, he, hf, hs⟩ := s_wd ha hb hF hF (by omega) (by omega) (by omega) (by omega)
      rw [decide_eq_true c1] at g1
      rw [decide_eq_true c2] at g2
      clear ht ha hb hF
      go_enter Try.func30, Try.ntmps30
      go_wp2
      go_ret2
      exact ⟨e, f, rfl, he, hf, rfl⟩
    · have ht : tkP h (x, y) = (3, (h - 1 - y, 2 * h - 1 - x)) := by unfold tkP; simp only; rw [if_neg (by omega), if_neg c2]
      rw [ht]
      obtain ⟨e, f, he, hf, hs⟩ := s_wd (wd_FL (n := 2 * h - 1) (by omega)) (wd_FL (n := h - 1) (by omega)) ha hb (by omega) (by omega) (by omega) (by omega)
      have C := fun W => corner_any h W h0 h1
      rw [decide_eq_true c1] at g1
      rw [decide_eq_false c2] at g2
      clear ht ha hb hF
      go_enter Try.func30, Try.ntmps30
      go_wp2_with (first | (go_at_call 41; refine (C _).mono ?_; rintro e w' ⟨rfl, rfl⟩) | (go_at_call 40; refine (mirror_any _ _ _).mono ?_; rintro e w' ⟨rfl, rfl⟩))
      go_ret2
      exact ⟨f, e, rfl, hf, he, rfl⟩
  · by_cases c2 : h ≤ y
    · have ht : tkP h (x, y) = (1, (x, y - h)) := by unfold tkP; simp only; rw [if_pos (by omega), if_neg (by omega)]
      rw [ht]
      obtain ⟨e, f, he, hf, hs⟩ := s_wd ha hb wd_zero hF (by omega) (by omega) (by omega) (by omega)
      rw [Int.sub_zero] at he
      rw [decide_eq_false c1] at g1
      rw [decide_eq_true c2] at g2
      clear ht ha hb hF
      go_enter Try.func30, Try.ntmps30
      go_wp2
      go_ret2
      exact ⟨e, f, rfl, he, hf, rfl⟩
    · have ht : tkP h (x, y) = (0, (y, x)) := by unfold tkP; simp only; rw [if_pos (by omega), if_pos (by omega)]
      rw [ht]
      rw [decide_eq_false c1] at g1
      rw [decide_eq_false c2] at g2
      clear ht hF
      go_enter Try.func30, Try.ntmps30
      go_wp2_with (go_at_call 40; refine (mirror_any _ _ _).mono ?_; rintro e w' ⟨rfl, rfl⟩)
      go_ret2
      exact ⟨b, a, rfl, hb, ha, rfl⟩
/-- What Place answers. -/
def plcA (n : Nat) (a b : Nat) : Int × Int := match wh n a, wh n b with
  | some x, some y => (plc n (x, y), 0)
  | _, _ => (0, 131)
theorem place_order (n : Int) (a b : Nat) (w : World) (h : n < 1 ∨ 16 < n) :
    Calls Try.prog 13 #[.int .i64 n, .complex .f64 a b] w fun e w' => e = .returned (.tuple #[.int .i64 0, .int .i64 130]) ∧ w' = w := by
  go_enter Try.func13, Try.ntmps13
  go_wp2_with (go_at_call 25; refine (isOrder_no _ _ h).mono ?_; rintro e w' ⟨rfl, rfl⟩)
  go_ret2
  exact ⟨rfl, rfl⟩
theorem place_no (n : Nat) (a b : Nat) (w : World) (h1 : 1 ≤ n) (h2 : n ≤ 16) (h : wh n a = none ∨ wh n b = none) :
    Calls Try.prog 13 #[.int .i64 (n : Int), .complex .f64 a b] w fun e w' => e = .returned (.tuple #[.int .i64 0, .int .i64 131]) ∧ w' = w := by
  cases ha : (wh n a).isSome
  · clear h
    go_enter Try.func13, Try.ntmps13
    go_wp2_with (first | (go_at_call 25; refine (isOrder_yes _ _ (by omega) (by omega)).mono ?_; rintro e w' ⟨rfl, rfl⟩) | (go_at_call 29; refine (within_any n _ _ h2).mono ?_; rintro e w' ⟨rfl, rfl⟩))
    go_ret2
    exact ⟨rfl, rfl⟩
  · have hb : (wh n b).isSome = false := by rcases h with h | h
                                            · rw [h] at ha; cases ha
                                            · rw [h]; rfl
    clear h
    go_enter Try.func13, Try.ntmps13
    go_wp2_with (first | (go_at_call 25; refine (isOrder_yes _ _ (by omega) (by omega)).mono ?_; rintro e w' ⟨rfl, rfl⟩) | (go_at_call 29; refine (within_any n _ _ h2).mono ?_; rintro e w' ⟨rfl, rfl⟩))
    go_ret2
    exact ⟨rfl, rfl⟩
set_option maxHeartbeats 1000000 in
theorem place_ok (n : Nat) (a b : Nat) (x y : Int) (w : World) (h1 : 1 ≤ n) (h2 : n ≤ 16) (ha : wh n a = some x) (hb : wh n b = some y) :
    Calls Try.prog 13 #[.int .i64 (n : Int), .complex .f64 a b] w fun e w' => e = .returned (.tuple #[.int .i64 (plc n (x, y)), .int .i64 0]) ∧ w' = w := by
  obtain ⟨hx0, hx1, hxw⟩ := wh_some h2 ha
  obtain ⟨hy0, hy1, hyw⟩ := wh_some h2 hb
  have ha' : (wh n a).isSome = true := by rw [ha]; rfl
  have hb' : (wh n b).isSome = true := by rw [hb]; rfl
  have HSQ : Hid (InSq n (x, y)) := ⟨hx0, hx1, hy0, hy1⟩
  clear ha hb hx0 hx1 hy0 hy1
  go_enter Try.func13, Try.ntmps13
  go_wp2_with (first | (go_at_call 25; refine (isOrder_yes _ _ (by omega) (by omega)).mono ?_; rintro e w' ⟨rfl, rfl⟩) | (go_at_call 29; refine (within_any n _ _ h2).mono ?_; rintro e w' ⟨rfl, rfl⟩))
  go_loop [1, 6, 7] (fun z q i => ∃ (k : Nat) (c d : Nat) (u v r : Int), k ≤ n ∧ i = .int .i64 ((k : Int) - 1) ∧ q = .int .i64 r ∧ z = .complex .f64 c d ∧ Hid (Wd c u) ∧ Hid (Wd d v) ∧ Hid (InSq k (u, v)) ∧ Hid (0 ≤ r) ∧ Hid ((r + 1) * 4 ^ k ≤ 4 ^ n) ∧ Hid (r * 4 ^ k + plc k (u, v) = plc n (x, y))) (fun _ _ i => (intOf i + 1).toNat)
  case atStart => exact ⟨n, a, b, x, y, 0, Nat.le_refl _, rfl, rfl, rfl, hxw, hyw, HSQ, Int.le_refl _, by show (0 + 1) * _ ≤ _; omega, by show 0 * _ + _ = _; omega⟩
  case round =>
    obtain ⟨k, c, d, u, v, r, hk, rfl, rfl, rfl, hc, hd, hsq, hr0, hr1, he⟩ := hrel
    cases k with
    | succ k =>
      have hp16 := pow_le16 (k := k) (by omega)
      have h20 := two_pos k
      have h40 := four_pos k
      have h4n := pow_le4 h2
      have hsq' := hsq.out
      have ht := tk_sq k (u, v) hsq'
      obtain ⟨s1, s2, s3, s4⟩ := hsq'
      rw [two_succ] at s2 s4
      have T := fun W => take_any u v (2 ^ k) c d W hc.out hd.out h20 hp16 ⟨s1, s2⟩ ⟨s3, s4⟩
      have he' : r * 4 ^ (k + 1) + ((tkP (2 ^ k) (u, v)).1 * 4 ^ k + plc k (tkP (2 ^ k) (u, v)).2) = plc n (x, y) := he.out
      have hr1' := hr1.out
      have hr0' := hr0.out
      rw [four_succ] at he' hr1'
      generalize hT : tkP (2 ^ k) (u, v) = tq at T ht he'
      obtain ⟨q, u', v'⟩ := tq
      simp only at T ht he'
      obtain ⟨t1, t2, _⟩ := ht
      have hq : 0 ≤ q ∧ q ≤ 3 := by omega
      have hq0 := hq.1
      have hq1 := hq.2
      have hr4 : r ≤ 4294967296 := by
        have : (r + 1) * 1 ≤ (r + 1) * (4 * 4 ^ k) := Int.mul_le_mul_of_nonneg_left (by omega) (by omega)
        omega
      have HR : Hid ((r * 4 + q + 1) * 4 ^ k ≤ 4 ^ n) := by
        have : (r * 4 + q + 1) * 4 ^ k ≤ ((r + 1) * 4) * 4 ^ k := Int.mul_le_mul_of_nonneg_right (by omega) (by omega)
        rw [Int.mul_assoc (r + 1)] at this
        exact Int.le_trans this hr1'
      have HE : Hid ((r * 4 + q) * 4 ^ k + plc k (u', v') = plc n (x, y)) := by
        show _ = _
        rw [← he', Int.add_mul, Int.mul_assoc]; omega
      have HS : Hid (InSq k (u', v')) := t1
      have hi : ((k + 1 : Nat) : Int) - 1 = (k : Int) := by omega
      rw [hi]
      clear hi he' hr1' he hr1 hsq hc hd hT t1 t2 s1 s2 s3 s4 h4n h40 hq hp16 h20 hxw hyw
      go_wp2_with (first | (go_at_call 27; refine (side_any k _ (by omega)).mono ?_; rintro e w' ⟨rfl, rfl⟩) | (go_at_call 30; refine (T _).mono ?_; rintro e w' ⟨c', d', rfl, hc', hd', rfl⟩; replace hc' : Hid (Wd c' u') := hc'; replace hd' : Hid (Wd d' v') := hd'))
      go_round
      case rel => exact ⟨k, c', d', u', v', r * 4 + q, by omega, rfl, rfl, rfl, hc', hd', HS, by show 0 ≤ _; omega, HR, HE⟩
      case measure => simp [intOf]
    | zero =>
      have HE : Hid (r = plc n (x, y)) := by have := he.out; simp [plc] at this; exact this
      clear he hr1 hsq hc hd hxw hyw
      go_wp2
      go_ret2
      exact ⟨by rw [← HE.out]; rfl, rfl⟩
theorem place_any (n : Nat) (a b : Nat) (w : World) (h1 : 1 ≤ n) (h2 : n ≤ 16) :
    Calls Try.prog 13 #[.int .i64 (n : Int), .complex .f64 a b] w fun e w' => e = .returned (.tuple #[.int .i64 (plcA n a b).1, .int .i64 (plcA n a b).2]) ∧ w' = w := by
  unfold plcA
  cases ha : wh n a with
  | none => exact place_no n a b w h1 h2 (.inl ha)
  | some x =>
    cases hb : wh n b with
    | none => exact place_no n a b w h1 h2 (.inr hb)
    | some y => exact place_ok n a b x y w h1 h2 ha hb
end Go.Proofs.Ytlfdlifmcabfjaa
