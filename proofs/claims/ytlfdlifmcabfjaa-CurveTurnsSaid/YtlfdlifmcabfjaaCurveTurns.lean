/-
  The law CurveTurns answers true for any two floats and any number of quarters: Turn exchanges the parts and turns their signs as the document says, and its examples are met.
  Conditions: none; the law holds for every input.
-/
import Derived.Test.YtlfdlifmcabfjaaCvH
import Derived.Test.YtlfdlifmcabfjaaCvFr
namespace Go.Proofs.Ytlfdlifmcabfjaa
open Go.ChangeShapes Go.WideShapes Go.ChangeAt Go.RowKit Go.Joins
set_option linter.unusedVariables false
set_option linter.unusedSimpArgs false

theorem same_self (a : Nat) (w : World) : Calls Try.prog 16 #[.float .f64 a, .float .f64 a] w fun e w' => e = .returned (.bool true) ∧ w' = w := by
  cases h : (FloatKind.f64.format.order a a == some .eq)
  · have h' : (FloatKind.f64.format.order a a != some .eq) = true := by unfold bne; rw [h]; rfl
    go_enter Try.func16, Try.ntmps16
    go_wp2
    go_ret
    exact ⟨rfl, rfl⟩
  · go_enter Try.func16, Try.ntmps16
    go_wp2
    go_ret
    exact ⟨rfl, rfl⟩
/-- The signs turned and the parts exchanged, so often. -/
def rot : Nat → Nat → Nat → Nat × Nat
  | 0, a, b => (a, b)
  | k + 1, a, b => (ngF (rot k a b).2, (rot k a b).1)
theorem ng_ng (a : Nat) : ngF (ngF a) = a := by
  unfold ngF Op.negFloat
  rw [Nat.xor_assoc, Nat.xor_self, Nat.xor_zero]
theorem rot_trn (k : Nat) (a b : Nat) (h : k ≤ 3) : rot k a b = trn (k : Int) a b := by
  rcases (by omega : k = 0 ∨ k = 1 ∨ k = 2 ∨ k = 3) with rfl | rfl | rfl | rfl
  · rfl
  · rfl
  · rfl
  · show (ngF (ngF b), ngF a) = (b, ngF a); rw [ng_ng]
set_option maxHeartbeats 1000000 in
theorem curveTurns_walk (a b : Nat) (q : Int) (hq : I64 q) (w : World) :
    Calls Try.prog 5 #[.float .f64 a, .float .f64 b, .int .i64 q] w fun e w' => e = .returned (.bool true) ∧ Below w.heap.size w w' := by
  have hn := run_neg
  obtain ⟨k, hk⟩ : ∃ k : Nat, q % 4 = (k : Int) := ⟨(q % 4).toNat, by omega⟩
  have hk3 : k ≤ 3 := by omega
  have T := fun W => turn_any a b q W
  rw [hk, ← rot_trn k a b hk3] at T
  have hm : q.tmod 4 = (k : Int) ∨ (q.tmod 4 = (k : Int) - 4 ∧ 1 ≤ k) := by
    rw [Int.tmod_eq_emod]
    split <;> omega
  obtain ⟨t, ht⟩ : ∃ t, q.tmod 4 = t := ⟨_, rfl⟩
  rw [ht] at hm
  have loop : ∀ s : Int, s = t → True := fun _ _ => trivial
  rcases hm with rfl | ⟨rfl, hk1⟩
  · by_cases hq0 : 0 ≤ q
    · rw [Int.tmod_eq_emod_of_nonneg hq0] at ht
      clear hk loop
      go_enter Try.func5, Try.ntmps5
      go_wp2
      go_loop [8, 9, 10] (fun x y i => ∃ j : Nat, j ≤ k ∧ i = .int .i64 (j : Int) ∧ x = .float .f64 (rot j a b).1 ∧ y = .float .f64 (rot j a b).2) (fun _ _ i => k - (intOf i).toNat)
      case atStart => exact ⟨0, Nat.zero_le _, rfl, rfl, rfl⟩
      case round =>
        obtain ⟨j, hj, rfl, rfl, rfl⟩ := hrel
        by_cases hjk : j < k
        · go_wp2
          go_round
          case rel => exact ⟨j + 1, by omega, by go_num, rfl, rfl⟩
          case measure => simp [intOf]; omega
        · obtain rfl : j = k := by omega
          go_wp2_with (fail)
          refine (T _).mono ?_
          rintro e w' ⟨rfl, hw⟩; obtain rfl := hw.symm; clear hw
          go_wp2_with (fail)
          refine (awakeC _).mono ?_
          rintro e w' ⟨rfl, hw⟩; obtain rfl := hw.symm; clear hw
          go_wp2_with (fail)
          refine (same_self _ _).mono ?_
          rintro e w' ⟨rfl, hw⟩; obtain rfl := hw.symm; clear hw
          go_wp2_with (fail)
          refine (same_self _ _).mono ?_
          rintro e w' ⟨rfl, hw⟩; obtain rfl := hw.symm; clear hw
          go_wp2_with (fail)
          go_ret
          exact ⟨rfl, Below.refl _ _⟩
    · clear hk loop
      go_enter Try.func5, Try.ntmps5
      go_wp2
      go_loop [8, 9, 10] (fun x y i => ∃ j : Nat, j ≤ k ∧ i = .int .i64 (j : Int) ∧ x = .float .f64 (rot j a b).1 ∧ y = .float .f64 (rot j a b).2) (fun _ _ i => k - (intOf i).toNat)
      case atStart => exact ⟨0, Nat.zero_le _, rfl, rfl, rfl⟩
      case round =>
        obtain ⟨j, hj, rfl, rfl, rfl⟩ := hrel
        by_cases hjk : j < k
        · go_wp2
          go_round
          case rel => exact ⟨j + 1, by omega, by go_num, rfl, rfl⟩
          case measure => simp [intOf]; omega
        · obtain rfl : j = k := by omega
          go_wp2_with (fail)
          refine (T _).mono ?_
          rintro e w' ⟨rfl, hw⟩; obtain rfl := hw.symm; clear hw
          go_wp2_with (fail)
          refine (awakeC _).mono ?_
          rintro e w' ⟨rfl, hw⟩; obtain rfl := hw.symm; clear hw
          go_wp2_with (fail)
          refine (same_self _ _).mono ?_
          rintro e w' ⟨rfl, hw⟩; obtain rfl := hw.symm; clear hw
          go_wp2_with (fail)
          refine (same_self _ _).mono ?_
          rintro e w' ⟨rfl, hw⟩; obtain rfl := hw.symm; clear hw
          go_wp2_with (fail)
          go_ret
          exact ⟨rfl, Below.refl _ _⟩
  · have hq0 : ¬ 0 ≤ q := fun hq0 => by rw [Int.tmod_eq_emod_of_nonneg hq0] at ht; omega
    have hlt : (k : Int) - 4 < 0 := by omega
    have hs : (k : Int) - 4 + 4 = (k : Int) := by omega
    clear hk loop
    go_enter Try.func5, Try.ntmps5
    go_wp2
    go_loop [8, 9, 10] (fun x y i => ∃ j : Nat, j ≤ k ∧ i = .int .i64 (j : Int) ∧ x = .float .f64 (rot j a b).1 ∧ y = .float .f64 (rot j a b).2) (fun _ _ i => k - (intOf i).toNat)
    case atStart => exact ⟨0, Nat.zero_le _, rfl, rfl, rfl⟩
    case round =>
      obtain ⟨j, hj, rfl, rfl, rfl⟩ := hrel
      by_cases hjk : j < k
      · go_wp2
        go_round
        case rel => exact ⟨j + 1, by omega, by go_num, rfl, rfl⟩
        case measure => simp [intOf]; omega
      · obtain rfl : j = k := by omega
        go_wp2_with (fail)
        refine (T _).mono ?_
        rintro e w' ⟨rfl, hw⟩; obtain rfl := hw.symm; clear hw
        go_wp2_with (fail)
        refine (awakeC _).mono ?_
        rintro e w' ⟨rfl, hw⟩; obtain rfl := hw.symm; clear hw
        go_wp2_with (fail)
        refine (same_self _ _).mono ?_
        rintro e w' ⟨rfl, hw⟩; obtain rfl := hw.symm; clear hw
        go_wp2_with (fail)
        refine (same_self _ _).mono ?_
        rintro e w' ⟨rfl, hw⟩; obtain rfl := hw.symm; clear hw
        go_wp2_with (fail)
        go_ret
        exact ⟨rfl, Below.refl _ _⟩

set_option maxRecDepth 100000 in
theorem curveTurns_lifted (os : Os) (started : os.Started) (H : Type) (enc : TypeId × Value → H) :
    ReturnsInHanded {} Try.checked os 5 .any (Rows.curveTurnsSpec.pre6 enc Try.prog Try.f5 Rows.curveTurnsRow.domain false) (Rows.curveTurnsSpec.post enc Try.prog Try.f5 false true false false) := by
  refine returnsInHanded_of_change (C := Try.checked) own started (by kernel_rfl) Try.func5
    (ChangeSpec.witness6 (enc := enc) (C := Try.checked) false ⟨#[], #[.float .f64 0, .float .f64 0, .int .i64 0], []⟩ 8 (by kernel_rfl) (by kernel_rfl) (by kernel_rfl) (by kernel_rfl)) ?_
  intro W base args ds gs before hval0 hW hcnd _
  have hval : ∀ (j : Nat) t v, Try.f5.params[j]? = some t → args[j]? = some v → Value.okWide Try.prog W .any base t v := hval0
  have hW' := hW
  obtain ⟨p, q, hA0, hV, rfl, hfz, hnd⟩ := hW
  have hA : DataW.TrodAll enc Try.prog W 0 (fun _ => true) true Try.f5.params.toList args.toList ds p := hA0
  rw [Try.params5] at hA hval
  obtain ⟨v0, vs0, d0, ds0, p0, q0, hargs, rfl, rfl, h0, r0⟩ := trodAll_cons hA
  obtain ⟨v1, vs1, d1, ds1, p1, q1, rfl, rfl, rfl, h1, r1⟩ := trodAll_cons r0
  obtain ⟨v2, vs2, d2, ds2, p2, q2, rfl, rfl, rfl, h2, r2⟩ := trodAll_cons r1
  obtain ⟨rfl, rfl, rfl⟩ := trodAll_nil r2
  obtain rfl : args = #[v0, v1, v2] := by cases args; simp_all
  obtain ⟨rfl, rfl⟩ := trodVars_none hV
  have hlt0 : ∀ x ∈ p0, x.block < W.heap.size := fun x hx => by simpa using hW'.lt x (by simp [hx])
  obtain ⟨a0, rfl, _, _, w0⟩ := open_float Try.underlying33 (hval 0 33 v0 rfl rfl) h0
  have hlt1 : ∀ x ∈ p1, x.block < W.heap.size := fun x hx => by simpa using hW'.lt x (by simp [hx])
  obtain ⟨a1, rfl, _, _, w1⟩ := open_float Try.underlying33 (hval 1 33 v1 rfl rfl) h1
  have hlt2 : ∀ x ∈ p2, x.block < W.heap.size := fun x hx => by simpa using hW'.lt x (by simp [hx])
  obtain ⟨a2, rfl, _, _, w2⟩ := open_int Try.underlying3 (hval 2 3 v2 rfl rfl) h2
  clear hA0 hval0
  simp only [List.append_nil] at hW'
  refine (curveTurns_walk a0 a1 a2 (wf_sgn w2) W ).mono fun e W' ⟨he, bel⟩ => ?_
  subst he
  exact ⟨_, rfl, _, _, _, [], _, [], hW', trodAll_mk1 (shut_bool Try.underlying4 _), (trodAll_cons_mk (Below.trod laidOut (by kernel_rfl) (of_decide_eq_true (by kernel_rfl)) h0 bel hlt0) (trodAll_cons_mk (Below.trod laidOut (by kernel_rfl) (of_decide_eq_true (by kernel_rfl)) h1 bel hlt1) (trodAll_cons_mk (Below.trod laidOut (by kernel_rfl) (of_decide_eq_true (by kernel_rfl)) h2 bel hlt2) trodAll_mk0))), rfl, bel.frame _, fun h => by cases h⟩

/-- The given statement. -/
theorem curveTurns_holds : Rows.CurveTurnsSaid :=
  OpenClaim.holds_of_wide 5 Try.f5 rfl rfl rfl rfl rfl rfl rfl ⟨rfl, rfl, rfl, rfl, rfl⟩ rfl rfl rfl rfl rfl (by kernel_rfl) Try.func5 (by kernel_rfl)
    (of_decide_eq_true (by kernel_rfl)) (by unfold Func.isWrapper; first | (rw [if_pos (by decide +kernel)]; kernel_rfl) | (rw [if_neg (by decide +kernel)]; exact ⟨rfl, rfl⟩))
    (fun os started H enc _ => curveTurns_lifted os started H enc)
#print axioms curveTurns_holds
end Go.Proofs.Ytlfdlifmcabfjaa
