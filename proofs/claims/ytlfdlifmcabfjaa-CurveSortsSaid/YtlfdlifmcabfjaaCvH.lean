/-
  The document's place of a point, its Place; awake.
-/
import Derived.Test.YtlfdlifmcabfjaaCvE
namespace Go.Proofs.Ytlfdlifmcabfjaa
open Go.RowKit
set_option linter.unusedVariables false
set_option linter.unusedSimpArgs false
set_option maxRecDepth 20000

theorem rplace_any : ∀ (n : Nat) (x y : Int) (w : World), n ≤ 16 → InSq n (x, y) →
    Calls Try.prog 32 #[.int .i64 (n : Int), .agg #[.int .i64 x, .int .i64 y]] w fun e w' => e = .returned (.int .i64 (plc n (x, y))) ∧ Below w.heap.size w w'
  | 0, x, y, w, _, _ => by
    go_enter Try.func32, Try.ntmps32
    go_wp2
    go_ret
    exact ⟨rfl, by (repeat (first | assumption | exact Below.refl _ _ | refine Below.drew ?_ | refine bel_drewN ?_ _ | refine Below.setCell ?_ (by first | omega | (simp; done) | (simp; omega)) _ | refine Below.alloc ?_ (by first | omega | (simp; done) | (simp; omega)) _ | refine bel_of ?_ (by assumption)))⟩
  | n + 1, x, y, w, hn, hs => by
    obtain ⟨a, b, c⟩ := tk_sq n (x, y) hs
    have hr := plc_rng n _ a
    have hq : plc (n + 1) (x, y) = (tkP (2 ^ n) (x, y)).1 * 4 ^ n + plc n (tkP (2 ^ n) (x, y)).2 := rfl
    rw [hq]
    obtain ⟨s1, s2, s3, s4⟩ := hs
    rw [two_succ] at s2 s4
    simp only at s1 s2 s3 s4
    have ih := fun W => rplace_any n (tkP (2 ^ n) (x, y)).2.1 (tkP (2 ^ n) (x, y)).2.2 W (by omega) a
    clear hq c b a
    have hp16 := pow_le16 (k := n) (by omega)
    have h20 := two_pos n
    have e4 : (2 : Int) ^ n * 2 ^ n = 4 ^ n := (four_two n).symm
    have hb4 : (4 : Int) ^ n ≤ 1073741824 := by
      have : (4 : Nat) ^ n ≤ 4 ^ 15 := Nat.pow_le_pow_right (by omega) (by omega)
      have h' : ((4 ^ n : Nat) : Int) ≤ ((4 ^ 15 : Nat) : Int) := Int.ofNat_le.2 this
      simpa using h'
    have h4p := four_pos n
    have hi : ((n + 1 : Nat) : Int) - 1 = (n : Int) := by omega
    have hn1 : ¬ ((n + 1 : Nat) : Int) = 0 := by omega
    have hn2 : (0 : Int) ≤ ((n + 1 : Nat) : Int) := by omega
    have hn3 : ((n + 1 : Nat) : Int) ≤ 16 := by omega
    generalize ((n + 1 : Nat) : Int) = N1 at hi hn1 hn2 hn3 ⊢
    obtain ⟨r1, r2⟩ := hr
    by_cases c1 : x < 2 ^ n
    · by_cases c2 : y < 2 ^ n
      · have ht : tkP (2 ^ n) (x, y) = (0, (y, x)) := by unfold tkP; simp only; rw [if_pos c1, if_pos c2]
        rw [ht] at ih r1 r2 ⊢
        clear ht
        simp only at ih r1 r2 ⊢
        generalize plc n (y, x) = R at *
        rw [show (0 : Int) * 4 ^ n + R = R by omega]
        go_enter Try.func32, Try.ntmps32
        go_wp2_with (go_at_call 32; refine (ih _).mono ?_; rintro e1 w1 ⟨rfl, hb1⟩; replace hb1 : Hid _ := hb1)
        go_ret
        refine ⟨rfl, ?_⟩
        have hb := hb1.out
        (repeat (first | assumption | exact Below.refl _ _ | refine Below.drew ?_ | refine bel_drewN ?_ _ | refine Below.setCell ?_ (by first | omega | (simp; done) | (simp; omega)) _ | refine Below.alloc ?_ (by first | omega | (simp; done) | (simp; omega)) _ | refine bel_of ?_ (by assumption)))
      · have ht : tkP (2 ^ n) (x, y) = (1, (x, y - 2 ^ n)) := by unfold tkP; simp only; rw [if_pos c1, if_neg c2]
        rw [ht] at ih r1 r2 ⊢
        clear ht
        simp only at ih r1 r2 ⊢
        generalize plc n (x, y - 2 ^ n) = R at *
        rw [show (1 : Int) * 4 ^ n + R = 4 ^ n + R by omega]
        go_enter Try.func32, Try.ntmps32
        go_wp2_with (go_at_call 32; refine (ih _).mono ?_; rintro e1 w1 ⟨rfl, hb1⟩; replace hb1 : Hid _ := hb1)
        go_ret
        refine ⟨rfl, ?_⟩
        have hb := hb1.out
        (repeat (first | assumption | exact Below.refl _ _ | refine Below.drew ?_ | refine bel_drewN ?_ _ | refine Below.setCell ?_ (by first | omega | (simp; done) | (simp; omega)) _ | refine Below.alloc ?_ (by first | omega | (simp; done) | (simp; omega)) _ | refine bel_of ?_ (by assumption)))
    · by_cases c2 : y < 2 ^ n
      · have ht : tkP (2 ^ n) (x, y) = (3, (2 ^ n - 1 - y, 2 * 2 ^ n - 1 - x)) := by unfold tkP; simp only; rw [if_neg c1, if_neg (by omega)]
        rw [ht] at ih r1 r2 ⊢
        clear ht
        simp only at ih r1 r2 ⊢
        generalize plc n (2 ^ n - 1 - y, 2 * 2 ^ n - 1 - x) = R at *
        go_enter Try.func32, Try.ntmps32
        go_wp2_with (go_at_call 32; refine (ih _).mono ?_; rintro e1 w1 ⟨rfl, hb1⟩; replace hb1 : Hid _ := hb1)
        go_ret
        refine ⟨rfl, ?_⟩
        have hb := hb1.out
        (repeat (first | assumption | exact Below.refl _ _ | refine Below.drew ?_ | refine bel_drewN ?_ _ | refine Below.setCell ?_ (by first | omega | (simp; done) | (simp; omega)) _ | refine Below.alloc ?_ (by first | omega | (simp; done) | (simp; omega)) _ | refine bel_of ?_ (by assumption)))
      · have ht : tkP (2 ^ n) (x, y) = (2, (x - 2 ^ n, y - 2 ^ n)) := by unfold tkP; simp only; rw [if_neg c1, if_pos (by omega)]
        have c3 : 2 ^ n ≤ y := by omega
        rw [ht] at ih r1 r2 ⊢
        clear ht
        simp only at ih r1 r2 ⊢
        generalize plc n (x - 2 ^ n, y - 2 ^ n) = R at *
        go_enter Try.func32, Try.ntmps32
        go_wp2_with (go_at_call 32; refine (ih _).mono ?_; rintro e1 w1 ⟨rfl, hb1⟩; replace hb1 : Hid _ := hb1)
        go_ret
        refine ⟨rfl, ?_⟩
        have hb := hb1.out
        (repeat (first | assumption | exact Below.refl _ _ | refine Below.drew ?_ | refine bel_drewN ?_ _ | refine Below.setCell ?_ (by first | omega | (simp; done) | (simp; omega)) _ | refine Below.alloc ?_ (by first | omega | (simp; done) | (simp; omega)) _ | refine bel_of ?_ (by assumption)))
theorem rPlace_order (n : Int) (a b : Nat) (w : World) (h : n < 1 ∨ 16 < n) :
    Calls Try.prog 14 #[.int .i64 n, .float .f64 a, .float .f64 b] w fun e w' => e = .returned (.tuple #[.int .i64 0, .int .i64 130]) ∧ Below w.heap.size w w' := by
  rcases h with h | h
  · go_enter Try.func14, Try.ntmps14
    go_wp2
    go_ret2
    exact ⟨rfl, by (repeat (first | assumption | exact Below.refl _ _ | refine Below.drew ?_ | refine bel_drewN ?_ _ | refine Below.setCell ?_ (by first | omega | (simp; done) | (simp; omega)) _ | refine Below.alloc ?_ (by first | omega | (simp; done) | (simp; omega)) _ | refine bel_of ?_ (by assumption)))⟩
  · have h' : ¬ n < 1 := by omega
    go_enter Try.func14, Try.ntmps14
    go_wp2
    go_ret2
    exact ⟨rfl, by (repeat (first | assumption | exact Below.refl _ _ | refine Below.drew ?_ | refine bel_drewN ?_ _ | refine Below.setCell ?_ (by first | omega | (simp; done) | (simp; omega)) _ | refine Below.alloc ?_ (by first | omega | (simp; done) | (simp; omega)) _ | refine bel_of ?_ (by assumption)))⟩
theorem rPlace_any (n : Nat) (a b : Nat) (w : World) (h1 : 1 ≤ n) (h2 : n ≤ 16) :
    Calls Try.prog 14 #[.int .i64 (n : Int), .float .f64 a, .float .f64 b] w fun e w' => e = .returned (.tuple #[.int .i64 (plcA n a b).1, .int .i64 (plcA n a b).2]) ∧ Below w.heap.size w w' := by
  have g1 : ¬ (n : Int) < 1 := by omega
  have g2 : ¬ (16 : Int) < (n : Int) := by omega
  have hp := pow_small h2
  have h20 := two_pos n
  unfold plcA
  cases ha : wh n a with
  | none =>
    have ha' : (wh n a).getD (-1) = -1 := by rw [ha]; rfl
    simp only
    clear ha
    go_enter Try.func14, Try.ntmps14
    go_wp2_with (go_at_call 31; refine (whole_any n _ _ h2).mono ?_; rintro e w' ⟨rfl, rfl⟩)
    go_ret2
    exact ⟨rfl, by (repeat (first | assumption | exact Below.refl _ _ | refine Below.drew ?_ | refine bel_drewN ?_ _ | refine Below.setCell ?_ (by first | omega | (simp; done) | (simp; omega)) _ | refine Below.alloc ?_ (by first | omega | (simp; done) | (simp; omega)) _ | refine bel_of ?_ (by assumption)))⟩
  | some x =>
    have ha' : (wh n a).getD (-1) = x := by rw [ha]; rfl
    obtain ⟨hx0, hx1, _⟩ := wh_some h2 ha
    have hx2 : ¬ x < 0 := by omega
    clear ha
    cases hb : wh n b with
    | none =>
      have hb' : (wh n b).getD (-1) = -1 := by rw [hb]; rfl
      simp only
      clear hb
      go_enter Try.func14, Try.ntmps14
      go_wp2_with (go_at_call 31; refine (whole_any n _ _ h2).mono ?_; rintro e w' ⟨rfl, rfl⟩)
      go_ret2
      exact ⟨rfl, by (repeat (first | assumption | exact Below.refl _ _ | refine Below.drew ?_ | refine bel_drewN ?_ _ | refine Below.setCell ?_ (by first | omega | (simp; done) | (simp; omega)) _ | refine Below.alloc ?_ (by first | omega | (simp; done) | (simp; omega)) _ | refine bel_of ?_ (by assumption)))⟩
    | some y =>
      have hb' : (wh n b).getD (-1) = y := by rw [hb]; rfl
      obtain ⟨hy0, hy1, _⟩ := wh_some h2 hb
      have hy2 : ¬ y < 0 := by omega
      simp only
      clear hb
      have R := fun W => rplace_any n x y W h2 ⟨hx0, hx1, hy0, hy1⟩
      generalize plc n (x, y) = r at *
      go_enter Try.func14, Try.ntmps14
      go_wp2_with (first | (go_at_call 31; refine (whole_any n _ _ h2).mono ?_; rintro e w' ⟨rfl, rfl⟩) | (go_at_call 32; refine (R _).mono ?_; rintro e w' ⟨rfl, hbR⟩; replace hbR : Hid _ := hbR))
      go_ret2
      exact ⟨rfl, hbR.out⟩
theorem fl3 : FL 3 = 4613937818241073152 := by decide +kernel
theorem awakeC (w : World) : Calls Try.prog 11 #[] w fun e w' => e = .returned (.bool true) ∧ w' = w := by
  have A1 := fun W => at_ok 1 3 W (by omega) (by omega) (by omega) (by decide)
  have A2 := fun W => at_ok 2 15 W (by omega) (by omega) (by omega) (by decide)
  have P1 := fun W => place_any 2 0 4611686018427387904 W (by omega) (by omega)
  have P2 := fun W => place_any 2 4602678819172646912 0 W (by omega) (by omega)
  have T := fun q W => turn_any 4611686018427387904 4607182418800017408 q W
  rw [show hil 1 3 = (1, 0) by decide, show CX (1, 0).1 (1, 0).2 = .complex .f64 4607182418800017408 0 by rw [← fl1, ← fl0]] at A1
  rw [show hil 2 15 = (3, 0) by decide, show CX (3, 0).1 (3, 0).2 = .complex .f64 4613937818241073152 0 by rw [← fl3, ← fl0]] at A2
  rw [show plcA 2 0 4611686018427387904 = (4, 0) by decide +kernel] at P1
  rw [show plcA 2 4602678819172646912 0 = (0, 131) by decide +kernel] at P2
  have t1 : trn (1 % 4) 4611686018427387904 4607182418800017408 = (13830554455654793216, 4611686018427387904) := by decide +kernel
  have t2 : trn (-1 % 4) 4611686018427387904 4607182418800017408 = (4607182418800017408, 13835058055282163712) := by decide +kernel
  have t3 : trn (6 % 4) 4611686018427387904 4607182418800017408 = (13835058055282163712, 13830554455654793216) := by decide +kernel
  have T1 := fun W => T 1 W
  have T2 := fun W => T (-1) W
  have T3 := fun W => T 6 W
  rw [t1] at T1
  rw [t2] at T2
  rw [t3] at T3
  clear T t1 t2 t3
  have o1 : (FloatKind.f64.format.order 4607182418800017408 4607182418800017408 == some .eq) = true := by decide +kernel
  have o2 : (FloatKind.f64.format.order 4613937818241073152 4613937818241073152 == some .eq) = true := by decide +kernel
  have o3 : (FloatKind.f64.format.order 0 0 == some .eq) = true := by decide +kernel
  have o4 : (FloatKind.f64.format.order 13830554455654793216 13830554455654793216 == some .eq) = true := by decide +kernel
  have o5 : (FloatKind.f64.format.order 4611686018427387904 4611686018427387904 == some .eq) = true := by decide +kernel
  have o6 : (FloatKind.f64.format.order 13835058055282163712 13835058055282163712 == some .eq) = true := by decide +kernel
  simp only at A1 A2 P1 P2 T1 T2 T3
  go_enter Try.func11, Try.ntmps11
  go_wp2_with (fail)
  refine (A1 _).mono ?_
  rintro e w' ⟨rfl, hw⟩; obtain rfl := hw.symm; clear hw
  go_wp2_with (fail)
  refine (A2 _).mono ?_
  rintro e w' ⟨rfl, hw⟩; obtain rfl := hw.symm; clear hw
  go_wp2_with (fail)
  refine (P1 _).mono ?_
  rintro e w' ⟨rfl, hw⟩; obtain rfl := hw.symm; clear hw
  go_wp2_with (fail)
  refine (P2 _).mono ?_
  rintro e w' ⟨rfl, hw⟩; obtain rfl := hw.symm; clear hw
  go_wp2_with (fail)
  refine (T1 _).mono ?_
  rintro e w' ⟨rfl, hw⟩; obtain rfl := hw.symm; clear hw
  go_wp2_with (fail)
  refine (T2 _).mono ?_
  rintro e w' ⟨rfl, hw⟩; obtain rfl := hw.symm; clear hw
  go_wp2_with (fail)
  refine (T3 _).mono ?_
  rintro e w' ⟨rfl, hw⟩; obtain rfl := hw.symm; clear hw
  go_wp2_with (fail)
  go_ret
  exact ⟨rfl, rfl⟩
end Go.Proofs.Ytlfdlifmcabfjaa
