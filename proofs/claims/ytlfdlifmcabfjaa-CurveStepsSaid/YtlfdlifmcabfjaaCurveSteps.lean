/-
  The law CurveSteps answers true for every order and place: a place's point is at that place, the next one is one step beside it, and the walk begins and ends where the document says.
  Conditions: none; the law holds for every input.
-/
import Derived.Test.YtlfdlifmcabfjaaCvH
import Derived.Test.YtlfdlifmcabfjaaCvFr
namespace Go.Proofs.Ytlfdlifmcabfjaa
open Go.ChangeShapes Go.WideShapes Go.ChangeAt Go.RowKit Go.Joins
set_option linter.unusedVariables false
set_option linter.unusedSimpArgs false

theorem ord_yes {a b : Nat} {x y : Int} (h1 : Wd a x) (h2 : Wd b y) (h : x = y) : (FloatKind.f64.format.order a b == some .eq) = true := by
  rw [order_wd h1 h2, compare_eq]; exact decide_eq_true h
theorem plcA_ok {n a b : Nat} {x y : Int} (ha : wh n a = some x) (hb : wh n b = some y) : plcA n a b = (plc n (x, y), 0) := by unfold plcA; rw [ha, hb]
theorem ord_dec {a b : Nat} {x y : Int} (h1 : Wd a x) (h2 : Wd b y) : (FloatKind.f64.format.order a b == some .eq) = decide (x = y) := by rw [order_wd h1 h2, compare_eq]
theorem wd_neg0 : Wd (ngF 0) 0 := by
  unfold Wd
  rw [show Ieee.double.read (ngF 0) = .number true ((0 : Int).natAbs * 2 ^ 1074) (-((1074 : Nat) : Int)) by decide +kernel]
  exact ⟨true, fun h => absurd rfl h, 1074, rfl⟩
theorem wd_neg1 : Wd (ngF 4607182418800017408) (-1) := by
  have : ngF 4607182418800017408 = FL (-1) := by decide +kernel
  rw [this]; exact wd_FL (by decide)
theorem wd_one : Wd 4607182418800017408 1 := by rw [← fl1]; exact wd_FL (by decide)
/-- Is it a step to the right, upwards, to the left, downwards? -/
def isSt (j : Nat) (x y : Int) : Bool := if j = 0 then decide (x = 1) && decide (y = 0) else if j = 1 then decide (x = 0) && decide (y = 1) else if j = 2 then decide (x = -1) && decide (y = 0) else decide (x = 0) && decide (y = -1)
def anySt : Nat → Int → Int → Bool
  | 0, _, _ => false
  | j + 1, x, y => anySt j x y || isSt j x y
theorem beside_any {x y u v : Int} (h : Beside (x, y) (u, v)) : anySt 4 (u - x) (v - y) = true := by
  unfold Beside at h
  simp only at h
  simp only [anySt, isSt]
  rcases h with ⟨a, b⟩ | ⟨a, b⟩ | ⟨a, b⟩ | ⟨a, b⟩ <;> rw [a, b] <;> decide
theorem curveSteps_err (n p er : Int) (w : World) (he : er = 130 ∨ er = 131) (A : ∀ W, Calls Try.prog 9 #[.int .i64 n, .int .i64 p] W fun e w' => e = .returned (.tuple #[.complex .f64 0 0, .int .i64 er]) ∧ w' = W) :
    Calls Try.prog 8 #[.int .i64 n, .int .i64 p] w fun e w' => e = .returned (.bool true) ∧ Below w.heap.size w w' := by
  have o1 : (FloatKind.f64.format.order 0 0 == some .eq) = true := by decide +kernel
  rcases he with rfl | rfl
  all_goals
    go_enter Try.func8, Try.ntmps8
    go_wp2_with (fail)
    refine (A _).mono ?_
    rintro e w' ⟨rfl, hw⟩; obtain rfl := hw.symm; clear hw
    go_wp2_with (fail)
    refine (awakeC _).mono ?_
    rintro e w' ⟨rfl, hw⟩; obtain rfl := hw.symm; clear hw
    go_wp2_with (fail)
    go_ret
    exact ⟨rfl, Below.refl _ _⟩
set_option maxHeartbeats 1000000 in
theorem curveSteps_last (k : Nat) (p : Int) (w : World) (h1 : 1 ≤ k) (h2 : k ≤ 16) (h0 : 0 ≤ p) (hb : p < 4 ^ k) (hl : ¬ p + 1 < 4 ^ k) :
    Calls Try.prog 8 #[.int .i64 (k : Int), .int .i64 p] w fun e w' => e = .returned (.bool true) ∧ Below w.heap.size w w' := by
  have hp4 := pow_le4 h2
  have hp2 := pow_le16 h2
  have h20 := two_pos k
  have A := fun W => at_ok k p W h1 h2 h0 hb
  have B := fun W => place_any k (FL (hil k p).1) (FL (hil k p).2) W h1 h2
  have C := fun W => at_above k (p + 1) W h1 h2 (by omega) (by omega)
  obtain ⟨s1, s2, s3, s4⟩ := hil_sq k p h0 hb
  rw [plcA_ok (wh_wd h2 s1 s2 (wd_FL (by omega))) (wh_wd h2 s3 s4 (wd_FL (by omega))), plc_hil k p h0 hb] at B
  have hz : hil k p = (2 ^ k - 1, 0) := by rw [show p = 4 ^ k - 1 by omega]; exact hil_last k
  rw [hz] at A B
  simp only at A B
  have o1 : (FloatKind.f64.format.order (FL (2 ^ k - 1)) (floatOfInt .f64 (2 ^ k - 1)) == some .eq) = true := ord_yes (wd_FL (by omega)) (wd_FL (by omega)) rfl
  have o2 : (FloatKind.f64.format.order (FL 0) 0 == some .eq) = true := ord_yes (wd_FL (by decide)) wd_zero rfl
  have hpp : p ≤ 4294967296 := by omega
  clear s1 s2 s3 s4 hz hl hb hp4
  go_enter Try.func8, Try.ntmps8
  go_wp2_with (fail)
  refine (A _).mono ?_
  rintro e w' ⟨rfl, hw⟩; obtain rfl := hw.symm; clear hw
  go_wp2_with (fail)
  refine (B _).mono ?_
  rintro e w' ⟨rfl, hw⟩; obtain rfl := hw.symm; clear hw
  go_wp2_with (fail)
  refine (C _).mono ?_
  rintro e w' ⟨rfl, hw⟩; obtain rfl := hw.symm; clear hw
  go_wp2_with (fail)
  refine (awakeC _).mono ?_
  rintro e w' ⟨rfl, hw⟩; obtain rfl := hw.symm; clear hw
  go_wp2_with (fail)
  go_ret
  exact ⟨rfl, Below.refl _ _⟩
set_option maxHeartbeats 2000000 in
theorem curveSteps_next (k : Nat) (p : Int) (w : World) (h1 : 1 ≤ k) (h2 : k ≤ 16) (h0 : 0 ≤ p) (hb : p + 1 < 4 ^ k) :
    Calls Try.prog 8 #[.int .i64 (k : Int), .int .i64 p] w fun e w' => e = .returned (.bool true) ∧ Below w.heap.size w w' := by
  have hp4 := pow_le4 h2
  have hp2 := pow_le16 h2
  have h20 := two_pos k
  have A := fun W => at_ok k p W h1 h2 h0 (by omega)
  have B := fun W => place_any k (FL (hil k p).1) (FL (hil k p).2) W h1 h2
  have C := fun W => at_ok k (p + 1) W h1 h2 (by omega) hb
  have D := fun W => at_ok k 0 W h1 h2 (by omega) (by omega)
  rw [hil_first] at D
  simp only at D
  obtain ⟨s1, s2, s3, s4⟩ := hil_sq k p h0 (by omega)
  obtain ⟨t1, t2, t3, t4⟩ := hil_sq k (p + 1) (by omega) hb
  rw [plcA_ok (wh_wd h2 s1 s2 (wd_FL (by omega))) (wh_wd h2 s3 s4 (wd_FL (by omega))), plc_hil k p h0 (by omega)] at B
  have hst := hil_step k p h0 hb
  generalize hil k p = z at *
  generalize hil k (p + 1) = z' at *
  obtain ⟨x, y⟩ := z
  obtain ⟨u, v⟩ := z'
  simp only at A B C s1 s2 s3 s4 t1 t2 t3 t4
  have hS := fun t W => c_sub u v x y t W (by omega) (by omega) (by omega) (by omega)
  have hany := beside_any hst
  have wx : Wd (FL (u - x)) (u - x) := wd_FL (by omega)
  have wy : Wd (FL (v - y)) (v - y) := wd_FL (by omega)
  have HA : Hid (anySt 4 (u - x) (v - y) = true) := hany
  have o2 : (FloatKind.f64.format.order (FL 0) 0 == some .eq) = true := ord_yes (wd_FL (by decide)) wd_zero rfl
  have hpp : p ≤ 4294967296 := by omega
  generalize FL (u - x) = dx at *
  generalize FL (v - y) = dy at *
  generalize u - x = X at *
  generalize v - y = Y at *
  have wx' : Hid (Wd dx X) := wx
  have wy' : Hid (Wd dy Y) := wy
  clear s1 s2 s3 s4 t1 t2 t3 t4 hb hp4 hst hany wx wy
  go_enter Try.func8, Try.ntmps8
  go_wp2_with (fail)
  refine (A _).mono ?_
  rintro e w' ⟨rfl, hw⟩; obtain rfl := hw.symm; clear hw
  go_wp2_with (fail)
  refine (B _).mono ?_
  rintro e w' ⟨rfl, hw⟩; obtain rfl := hw.symm; clear hw
  go_wp2_with (fail)
  refine (C _).mono ?_
  rintro e w' ⟨rfl, hw⟩; obtain rfl := hw.symm; clear hw
  go_wp2_with (fail)
  go_loop [12, 13] (fun o i => ∃ (j : Nat) (ob : Bool), j ≤ 4 ∧ i = .int .i64 (j : Int) ∧ o = .bool ob ∧ Hid (ob = anySt j X Y)) (fun _ i => 4 - (intOf i).toNat)
  case atStart => exact ⟨0, false, Nat.zero_le _, rfl, rfl, rfl⟩
  case round =>
    obtain ⟨j, ob, hj, rfl, rfl, hob⟩ := hrel
    by_cases hj4 : j < 4
    · have hT := fun W => turn_any 4607182418800017408 0 (j : Int) W
      have key : ∃ a b : Nat, trn ((j : Int) % 4) 4607182418800017408 0 = (a, b) ∧ ((FloatKind.f64.format.order dx a == some .eq) && (FloatKind.f64.format.order dy b == some .eq)) = isSt j X Y := by
        have wx := wx'.out
        have wy := wy'.out
        rcases (by omega : j = 0 ∨ j = 1 ∨ j = 2 ∨ j = 3) with rfl | rfl | rfl | rfl
        · exact ⟨_, _, rfl, by rw [ord_dec wx wd_one, ord_dec wy wd_zero]; rfl⟩
        · exact ⟨_, _, rfl, by rw [ord_dec wx wd_neg0, ord_dec wy wd_one]; rfl⟩
        · exact ⟨_, _, rfl, by rw [ord_dec wx wd_neg1, ord_dec wy wd_neg0]; rfl⟩
        · exact ⟨_, _, rfl, by rw [ord_dec wx wd_zero, ord_dec wy wd_neg1]; rfl⟩
      obtain ⟨a, b, hab, hm⟩ := key
      rw [hab] at hT
      simp only at hT
      have hN : Hid (anySt (j + 1) X Y = (ob || isSt j X Y)) := by show _ = _; rw [hob.out]; rfl
      clear hab hob
      have hE : ∀ t W, (binOp .eql t (.complex .f64 dx dy) (.complex .f64 a b)).run Try.prog W = .ok (.bool (isSt j X Y)) W := fun t W => by rw [run_eql_complex, hm]
      clear hm
      cases ob
      · go_wp2_with (go_at_call 15; refine (hT _).mono ?_; rintro e w' ⟨rfl, hw⟩; obtain rfl := hw.symm; clear hw)
        go_round
        case rel => exact ⟨j + 1, isSt j X Y, by omega, by go_num, by simp, by show _ = _; rw [hN.out]; simp⟩
        case measure => simp [intOf]; omega
      · go_wp2_with (go_at_call 15; refine (hT _).mono ?_; rintro e w' ⟨rfl, hw⟩; obtain rfl := hw.symm; clear hw)
        go_round
        case rel => exact ⟨j + 1, true, by omega, by go_num, by simp, by show _ = _; rw [hN.out]; simp⟩
        case measure => simp [intOf]; omega
    · obtain rfl : j = 4 := by omega
      obtain rfl : ob = true := by rw [hob.out]; exact HA.out
      go_wp2_with (fail)
      refine (D _).mono ?_
      rintro e w' ⟨rfl, hw⟩; obtain rfl := hw.symm; clear hw
      go_wp2_with (fail)
      refine (awakeC _).mono ?_
      rintro e w' ⟨rfl, hw⟩; obtain rfl := hw.symm; clear hw
      go_wp2_with (fail)
      go_ret
      exact ⟨rfl, Below.refl _ _⟩
theorem curveSteps_walk (n : Int) (hn : I64 n) (p : Int) (hp : I64 p) (w : World) :
    Calls Try.prog 8 #[.int .i64 n, .int .i64 p] w fun e w' => e = .returned (.bool true) ∧ Below w.heap.size w w' := by
  by_cases ho : n < 1 ∨ 16 < n
  · exact curveSteps_err n p 130 w (.inl rfl) (fun W => at_order n p W ho)
  · obtain ⟨k, rfl⟩ : ∃ k : Nat, n = (k : Int) := ⟨n.toNat, by omega⟩
    have h1 : 1 ≤ k := by omega
    have h2 : k ≤ 16 := by omega
    by_cases h0 : p < 0
    · exact curveSteps_err _ p 131 w (.inr rfl) (fun W => at_below k p W h1 h2 h0)
    · by_cases h3 : p < 4 ^ k
      · by_cases h4 : p + 1 < 4 ^ k
        · exact curveSteps_next k p w h1 h2 (by omega) h4
        · exact curveSteps_last k p w h1 h2 (by omega) h3 h4
      · exact curveSteps_err _ p 131 w (.inr rfl) (fun W => at_above k p W h1 h2 (by omega) hp.2)

set_option maxRecDepth 100000 in
theorem curveSteps_lifted (os : Os) (started : os.Started) (H : Type) (enc : TypeId × Value → H) :
    ReturnsInHanded {} Try.checked os 8 .any (Rows.curveStepsSpec.pre6 enc Try.prog Try.f8 Rows.curveStepsRow.domain false) (Rows.curveStepsSpec.post enc Try.prog Try.f8 false true false false) := by
  refine returnsInHanded_of_change (C := Try.checked) own started (by kernel_rfl) Try.func8
    (ChangeSpec.witness6 (enc := enc) (C := Try.checked) false ⟨#[], #[.int .i64 0, .int .i64 0], []⟩ 8 (by kernel_rfl) (by kernel_rfl) (by kernel_rfl) (by kernel_rfl)) ?_
  intro W base args ds gs before hval0 hW hcnd _
  have hval : ∀ (j : Nat) t v, Try.f8.params[j]? = some t → args[j]? = some v → Value.okWide Try.prog W .any base t v := hval0
  have hW' := hW
  obtain ⟨p, q, hA0, hV, rfl, hfz, hnd⟩ := hW
  have hA : DataW.TrodAll enc Try.prog W 0 (fun _ => true) true Try.f8.params.toList args.toList ds p := hA0
  rw [Try.params8] at hA hval
  obtain ⟨v0, vs0, d0, ds0, p0, q0, hargs, rfl, rfl, h0, r0⟩ := trodAll_cons hA
  obtain ⟨v1, vs1, d1, ds1, p1, q1, rfl, rfl, rfl, h1, r1⟩ := trodAll_cons r0
  obtain ⟨rfl, rfl, rfl⟩ := trodAll_nil r1
  obtain rfl : args = #[v0, v1] := by cases args; simp_all
  obtain ⟨rfl, rfl⟩ := trodVars_none hV
  have hlt0 : ∀ x ∈ p0, x.block < W.heap.size := fun x hx => by simpa using hW'.lt x (by simp [hx])
  obtain ⟨a0, rfl, _, _, w0⟩ := open_int Try.underlying3 (hval 0 3 v0 rfl rfl) h0
  have hlt1 : ∀ x ∈ p1, x.block < W.heap.size := fun x hx => by simpa using hW'.lt x (by simp [hx])
  obtain ⟨a1, rfl, _, _, w1⟩ := open_int Try.underlying3 (hval 1 3 v1 rfl rfl) h1
  clear hA0 hval0
  simp only [List.append_nil] at hW'
  refine (curveSteps_walk a0 (wf_sgn w0) a1 (wf_sgn w1) W ).mono fun e W' ⟨he, bel⟩ => ?_
  subst he
  exact ⟨_, rfl, _, _, _, [], _, [], hW', trodAll_mk1 (shut_bool Try.underlying4 _), (trodAll_cons_mk (Below.trod laidOut (by kernel_rfl) (of_decide_eq_true (by kernel_rfl)) h0 bel hlt0) (trodAll_cons_mk (Below.trod laidOut (by kernel_rfl) (of_decide_eq_true (by kernel_rfl)) h1 bel hlt1) trodAll_mk0)), rfl, bel.frame _, fun h => by cases h⟩

/-- The given statement. -/
theorem curveSteps_holds : Rows.CurveStepsSaid :=
  OpenClaim.holds_of_wide 8 Try.f8 rfl rfl rfl rfl rfl rfl rfl ⟨rfl, rfl, rfl, rfl, rfl⟩ rfl rfl rfl rfl rfl (by kernel_rfl) Try.func8 (by kernel_rfl)
    (of_decide_eq_true (by kernel_rfl)) (by unfold Func.isWrapper; first | (rw [if_pos (by decide +kernel)]; kernel_rfl) | (rw [if_neg (by decide +kernel)]; exact ⟨rfl, rfl⟩))
    (fun os started H enc _ => curveSteps_lifted os started H enc)
#print axioms curveSteps_holds
end Go.Proofs.Ytlfdlifmcabfjaa
