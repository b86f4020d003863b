/-
  Meet of the document's answer, of two masks that may be.
-/
import Derived.Test.YtebljklpkoheaaaGreatMkC
namespace Go.Proofs.YtebljklpkoheaaaGreat
open Go.RowKit
set_option linter.unusedVariables false
set_option linter.unusedSimpArgs false

theorem hi_one {y k : Nat} (hy : y < 256) (hk : k < 8) (h : tb y k = 1) : ((hi y k : Nat) : Int) + 2 ^ (7 - k) = ((hi y (k + 1) : Nat) : Int) ∧ ((hi y k : Nat) : Int) + 2 ^ (7 - k) < 256 := by
  have e := hi_succ y k hk
  have l := hi_lt hy (k + 1)
  rw [h, Nat.one_mul] at e
  have e2 : (2 : Int) ^ (7 - k) = ((2 ^ (7 - k) : Nat) : Int) := by simp
  rw [e2]
  generalize 2 ^ (7 - k) = z at e
  omega
theorem hi_nil {y k : Nat} (hk : k < 8) (h : tb y k = 0) : ((hi y (k + 1) : Nat) : Int) = ((hi y k : Nat) : Int) := by
  have e := hi_succ y k hk
  rw [h, Nat.zero_mul] at e
  omega
theorem tb_or_zero {a b i : Nat} (h1 : tb a i = 0) (h2 : tb b i = 0) : tb (a ||| b) i = 0 := by
  have := tb_or_one a b i
  have l := tb_lt (a ||| b) i
  omega
theorem ap_bits {v c x d : Nat} (hc : c < 256) : apM v c x d = false ↔ ∀ i, i < 8 → tb c i = 1 → tb d i = 1 → tb v i = tb x i := by
  rw [apM_iff]
  constructor
  · intro h i hi h1 h2
    rw [tb_one] at h1 h2
    rw [tb_same]
    exact h _ h1 h2
  · intro h i h1 h2
    by_cases h8 : i < 8
    · have := h (7 - i) (by omega)
      rw [tb_one, tb_one, tb_same, show 7 - (7 - i) = i by omega] at this
      exact this h1 h2
    · rw [test_ge hc (by omega)] at h1; cases h1
theorem ok_tb {v c i : Nat} (h : okM v c = true) (hc : tb c i = 0) : tb v i = 0 := by
  rw [okM_iff] at h
  rw [tb_zero] at hc ⊢
  cases hv : v.testBit (7 - i)
  · rfl
  · rw [h _ hv] at hc; cases hc
def meetV (v c x d : Nat) : Value := if apM v c x d then .tuple #[.agg #[.int .u8 0, .int .u8 0], .bool false] else .tuple #[.agg #[.int .u8 (v ||| x : Nat), .int .u8 (c ||| d : Nat)], .bool true]

set_option maxHeartbeats 4000000 in
theorem rmeet_ok (v c x d : Nat) (w : World) (hv : v < 256) (hc : c < 256) (hx : x < 256) (hd : d < 256) (h1 : okM v c = true) (h2 : okM x d = true) :
    Calls Tryz.prog 48 #[.agg #[.int .u8 v, .int .u8 c], .agg #[.int .u8 x, .int .u8 d]] w fun e w' => e = .returned (meetV v c x d) ∧ Below w.heap.size w w' := by
  have hcal := fun W => rcheckM v c W hv hc
  have hcal2 := fun W => rcheckM x d W hx hd
  rw [chk_ok h1] at hcal
  rw [chk_ok h2] at hcal2
  go_enter Tryz.func48, Tryz.ntmps48
  go_wp2_with (fail)
  refine (hcal _).mono ?_
  rintro e w1 ⟨rfl, hb1⟩
  have a0 : w1.cell? ⟨w.heap.size, 0, none⟩ = some (.int .u8 v) := cell_on1 hb1 (by simp [go_sem])
  have a1 : w1.cell? ⟨w.heap.size, 1, none⟩ = some (.int .u8 c) := cell_on1 hb1 (by simp [go_sem])
  have b0 : w1.cell? ⟨w.heap.size + 1, 0, none⟩ = some (.int .u8 x) := cell_on1 hb1 (by simp [go_sem])
  have b1 : w1.cell? ⟨w.heap.size + 1, 1, none⟩ = some (.int .u8 d) := cell_on1 hb1 (by simp [go_sem])
  have c0 : w1.cell? ⟨w.heap.size + 1 + 1, 0, none⟩ = some (.int .u8 0) := cell_on1 hb1 (by simp [go_sem])
  have c1 : w1.cell? ⟨w.heap.size + 1 + 1, 1, none⟩ = some (.int .u8 0) := cell_on1 hb1 (by simp [go_sem])
  have f0 : w1.frozen? ⟨w.heap.size + 1 + 1, 0, none⟩ = false := by rw [hb1.frozen (by simp)]; simp [go_sem]
  have f1 : w1.frozen? ⟨w.heap.size + 1 + 1, 1, none⟩ = false := by rw [hb1.frozen (by simp)]; simp [go_sem]
  have hbw : Hid (Below w.heap.size w w1) := by show Below _ _ _; (repeat (first | assumption | exact Below.refl _ _ | refine Below.drew ?_ | refine bel_drewN ?_ _ | refine Below.setCell ?_ (by first | omega | (simp; done) | (simp; omega)) _ | refine Below.alloc ?_ (by first | omega | (simp; done) | (simp; omega)) _ | refine bel_of ?_ (by assumption)))
  have hz := hb1.size
  simp at hz
  clear hb1 hcal
  go_wp2_with (fail)
  refine (hcal2 _).mono ?_
  rintro e w2 ⟨rfl, hb2⟩
  have A0 := cell_on1 hb2 a0
  have A1 := cell_on1 hb2 a1
  have B0 := cell_on1 hb2 b0
  have B1 := cell_on1 hb2 b1
  have C0 := cell_on1 hb2 c0
  have C1 := cell_on1 hb2 c1
  have F0 : w2.frozen? ⟨w.heap.size + 1 + 1, 0, none⟩ = false := by rw [hb2.frozen (by show w.heap.size + 1 + 1 < _; omega)]; exact f0
  have F1 : w2.frozen? ⟨w.heap.size + 1 + 1, 1, none⟩ = false := by rw [hb2.frozen (by show w.heap.size + 1 + 1 < _; omega)]; exact f1
  have hbw2 : Hid (Below w.heap.size w w2) := hbw.out.trans (hb2.mono (by omega))
  have hz2 := hb2.size
  have hO : w.heap.size + 1 + 1 < w2.heap.size := by omega
  clear hb2 hcal2 a0 a1 b0 b1 c0 c1 f0 f1 hbw hz hz2
  go_wp2_with (fail)
  have n0 : ¬ w.heap.size = w2.heap.size := by omega
  have n1 : ¬ w.heap.size + 1 = w2.heap.size := by omega
  have n2 : ¬ w.heap.size + 1 + 1 = w2.heap.size := by omega
  have m0 : ¬ w2.heap.size = w.heap.size := by omega
  have m1 : ¬ w2.heap.size = w.heap.size + 1 := by omega
  have m2 : ¬ w2.heap.size = w.heap.size + 1 + 1 := by omega
  go_loopw [7] (fun i wr => ∃ k : Nat, k ≤ 8 ∧ i = .int .i64 k ∧ Hid (∀ j, j < k → tb c j = 1 → tb d j = 1 → tb v j = tb x j) ∧ Hid (Below w2.heap.size w2 wr) ∧ wr.cell? ⟨w2.heap.size, 0, none⟩ = some (.int .u8 ((hi (v ||| x) k : Nat) : Int)) ∧ wr.cell? ⟨w2.heap.size, 1, none⟩ = some (.int .u8 ((hi (c ||| d) k : Nat) : Int)) ∧ wr.frozen? ⟨w2.heap.size, 0, none⟩ = false ∧ wr.frozen? ⟨w2.heap.size, 1, none⟩ = false) (fun i _ => 8 - (intOf i).toNat)
  case atStart => exact ⟨0, Nat.zero_le _, rfl, fun j hj => by omega, by show Below _ _ _; (repeat (first | assumption | exact Below.refl _ _ | refine Below.drew ?_ | refine bel_drewN ?_ _ | refine Below.setCell ?_ (by first | omega | (simp; done) | (simp; omega)) _ | refine Below.alloc ?_ (by first | omega | (simp; done) | (simp; omega)) _ | refine bel_of ?_ (by assumption))), by rw [hi_zero (or_lt hv hx)]; simp [go_sem], by rw [hi_zero (or_lt hc hd)]; simp [go_sem], by simp [go_sem], by simp [go_sem]⟩
  case round =>
    obtain ⟨k, hk, rfl, hag, hbw, o0, o1, g0, g1⟩ := hrel
    have a0 := cell_on1 hbw.out A0
    have a1 := cell_on1 hbw.out A1
    have b0 := cell_on1 hbw.out B0
    have b1 := cell_on1 hbw.out B1
    have c0 := cell_on1 hbw.out C0
    have c1 := cell_on1 hbw.out C1
    have f0 : wr.frozen? ⟨w.heap.size + 1 + 1, 0, none⟩ = false := by rw [hbw.out.frozen hO]; exact F0
    have f1 : wr.frozen? ⟨w.heap.size + 1 + 1, 1, none⟩ = false := by rw [hbw.out.frozen hO]; exact F1
    have hBW : Hid (Below w.heap.size w wr) := hbw2.out.trans (hbw.out.mono hbw2.out.size)
    clear A0 A1 B0 B1 C0 C1 F0 F1 hbw2
    by_cases hlt : k < 8
    · have hlt' : (k : Int) < 8 := by omega
      have l1 := tb_lt c k
      have l2 := tb_lt d k
      have l3 := tb_lt v k
      have l4 := tb_lt x k
      obtain ec | ec : tb c k = 0 ∨ tb c k = 1 := by omega
      · skip
        have zv := ok_tb h1 ec
        obtain ed | ed : tb d k = 0 ∨ tb d k = 1 := by omega
        · skip
          have zx := ok_tb h2 ed
          have ic : ((tb c k : Nat) : Int) = 0 := by omega
          have id : ((tb d k : Nat) : Int) = 0 := by omega
          have iv : ((tb v k : Nat) : Int) = 0 := by omega
          have ix : ((tb x k : Nat) : Int) = 0 := by omega
          have HN : Hid (∀ j, j < k + 1 → tb c j = 1 → tb d j = 1 → tb v j = tb x j) := fun j hj q1 q2 => by
            by_cases ej : j = k
            · subst ej; omega
            · exact hag.out j (by omega) q1 q2
          have tC : tb (c ||| d) k = 0 := tb_or_zero (by omega) (by omega)
          have HC : Hid (((hi (c ||| d) (k + 1) : Nat) : Int) = ((hi (c ||| d) k : Nat) : Int)) := hi_nil hlt tC
          clear tC
          have tV : tb (v ||| x) k = 0 := tb_or_zero (by omega) (by omega)
          have HV : Hid (((hi (v ||| x) (k + 1) : Nat) : Int) = ((hi (v ||| x) k : Nat) : Int)) := hi_nil hlt tV
          clear tV
          clear l1 l2 l3 l4 hag h1 h2
          go_wp2_with (go_at_call 63; refine (bitM _ k _ ?_ ?_).mono ?_; assumption; omega; rintro e w' ⟨rfl, hw⟩; obtain rfl := hw.symm; clear hw)
          go_quiet ((go_at_call 63; exact Calls.quiet_of_same (bitM _ k _ (by assumption) (by omega))))
          go_wp2_with (go_at_call 63; refine (bitM _ k _ ?_ ?_).mono ?_; assumption; omega; rintro e w' ⟨rfl, hw⟩; obtain rfl := hw.symm; clear hw)
          go_roundw
          case rel => exact ⟨k + 1, by omega, by go_num, HN.out, by show Below _ _ _; have := hbw.out; (repeat (first | assumption | exact Below.refl _ _ | refine Below.drew ?_ | refine bel_drewN ?_ _ | refine Below.setCell ?_ (by first | omega | (simp; done) | (simp; omega)) _ | refine Below.alloc ?_ (by first | omega | (simp; done) | (simp; omega)) _ | refine bel_of ?_ (by assumption))), by rw [HV.out]; simp [go_sem, *], by rw [HC.out]; simp [go_sem, *], by simp [go_sem, *], by simp [go_sem, *]⟩
          case measure => simp [intOf]; omega
        · skip
          obtain ex | ex : tb x k = 0 ∨ tb x k = 1 := by omega
          · skip
            have ic : ((tb c k : Nat) : Int) = 0 := by omega
            have id : ((tb d k : Nat) : Int) = 1 := by omega
            have iv : ((tb v k : Nat) : Int) = 0 := by omega
            have ix : ((tb x k : Nat) : Int) = 0 := by omega
            have HN : Hid (∀ j, j < k + 1 → tb c j = 1 → tb d j = 1 → tb v j = tb x j) := fun j hj q1 q2 => by
              by_cases ej : j = k
              · subst ej; omega
              · exact hag.out j (by omega) q1 q2
            have tC : tb (c ||| d) k = 1 := (tb_or_one _ _ _).2 (by omega)
            have HC : Hid (((hi (c ||| d) k : Nat) : Int) + 2 ^ (7 - k) = ((hi (c ||| d) (k + 1) : Nat) : Int)) := (hi_one (or_lt hc hd) hlt tC).1
            have LC : ((hi (c ||| d) k : Nat) : Int) + 2 ^ (7 - k) < 256 := (hi_one (or_lt hc hd) hlt tC).2
            have PC : 0 ≤ ((hi (c ||| d) k : Nat) : Int) + 2 ^ (7 - k) := by exact Int.add_nonneg (Int.natCast_nonneg _) (Int.pow_nonneg (by decide))
            clear tC
            have tV : tb (v ||| x) k = 0 := tb_or_zero (by omega) (by omega)
            have HV : Hid (((hi (v ||| x) (k + 1) : Nat) : Int) = ((hi (v ||| x) k : Nat) : Int)) := hi_nil hlt tV
            clear tV
            clear l1 l2 l3 l4 hag h1 h2
            go_wp2_with (go_at_call 63; refine (bitM _ k _ ?_ ?_).mono ?_; assumption; omega; rintro e w' ⟨rfl, hw⟩; obtain rfl := hw.symm; clear hw)
            go_quiet ((go_at_call 63; exact Calls.quiet_of_same (bitM _ k _ (by assumption) (by omega))))
            go_wp2_with (go_at_call 63; refine (bitM _ k _ ?_ ?_).mono ?_; assumption; omega; rintro e w' ⟨rfl, hw⟩; obtain rfl := hw.symm; clear hw)
            go_region_with (go_at_call 67; refine (oneM k _ ?_).mono ?_; omega; rintro e w' ⟨rfl, hw⟩; obtain rfl := hw.symm; clear hw)
            all_goals
              go_wp2_with (go_at_call 63; refine (bitM _ k _ ?_ ?_).mono ?_; assumption; omega; rintro e w' ⟨rfl, hw⟩; obtain rfl := hw.symm; clear hw)
              go_roundw
              case rel => exact ⟨k + 1, by omega, by go_num, HN.out, by show Below _ _ _; have := hbw.out; (repeat (first | assumption | exact Below.refl _ _ | refine Below.drew ?_ | refine bel_drewN ?_ _ | refine Below.setCell ?_ (by first | omega | (simp; done) | (simp; omega)) _ | refine Below.alloc ?_ (by first | omega | (simp; done) | (simp; omega)) _ | refine bel_of ?_ (by assumption))), by rw [HV.out]; simp [go_sem, *], by rw [← HC.out]; simp [go_sem, *], by simp [go_sem, *], by simp [go_sem, *]⟩
              case measure => simp [intOf]; omega
          · skip
            have ic : ((tb c k : Nat) : Int) = 0 := by omega
            have id : ((tb d k : Nat) : Int) = 1 := by omega
            have iv : ((tb v k : Nat) : Int) = 0 := by omega
            have ix : ((tb x k : Nat) : Int) = 1 := by omega
            have HN : Hid (∀ j, j < k + 1 → tb c j = 1 → tb d j = 1 → tb v j = tb x j) := fun j hj q1 q2 => by
              by_cases ej : j = k
              · subst ej; omega
              · exact hag.out j (by omega) q1 q2
            have tC : tb (c ||| d) k = 1 := (tb_or_one _ _ _).2 (by omega)
            have HC : Hid (((hi (c ||| d) k : Nat) : Int) + 2 ^ (7 - k) = ((hi (c ||| d) (k + 1) : Nat) : Int)) := (hi_one (or_lt hc hd) hlt tC).1
            have LC : ((hi (c ||| d) k : Nat) : Int) + 2 ^ (7 - k) < 256 := (hi_one (or_lt hc hd) hlt tC).2
            have PC : 0 ≤ ((hi (c ||| d) k : Nat) : Int) + 2 ^ (7 - k) := by exact Int.add_nonneg (Int.natCast_nonneg _) (Int.pow_nonneg (by decide))
            clear tC
            have tV : tb (v ||| x) k = 1 := (tb_or_one _ _ _).2 (by omega)
            have HV : Hid (((hi (v ||| x) k : Nat) : Int) + 2 ^ (7 - k) = ((hi (v ||| x) (k + 1) : Nat) : Int)) := (hi_one (or_lt hv hx) hlt tV).1
            have LV : ((hi (v ||| x) k : Nat) : Int) + 2 ^ (7 - k) < 256 := (hi_one (or_lt hv hx) hlt tV).2
            have PV : 0 ≤ ((hi (v ||| x) k : Nat) : Int) + 2 ^ (7 - k) := by exact Int.add_nonneg (Int.natCast_nonneg _) (Int.pow_nonneg (by decide))
            clear tV
            clear l1 l2 l3 l4 hag h1 h2
            go_wp2_with (go_at_call 63; refine (bitM _ k _ ?_ ?_).mono ?_; assumption; omega; rintro e w' ⟨rfl, hw⟩; obtain rfl := hw.symm; clear hw)
            go_quiet ((go_at_call 63; exact Calls.quiet_of_same (bitM _ k _ (by assumption) (by omega))))
            go_wp2_with (go_at_call 63; refine (bitM _ k _ ?_ ?_).mono ?_; assumption; omega; rintro e w' ⟨rfl, hw⟩; obtain rfl := hw.symm; clear hw)
            go_region_with (go_at_call 67; refine (oneM k _ ?_).mono ?_; omega; rintro e w' ⟨rfl, hw⟩; obtain rfl := hw.symm; clear hw)
            all_goals
              go_wp2_with (go_at_call 63; refine (bitM _ k _ ?_ ?_).mono ?_; assumption; omega; rintro e w' ⟨rfl, hw⟩; obtain rfl := hw.symm; clear hw)
              go_region_with (go_at_call 67; refine (oneM k _ ?_).mono ?_; omega; rintro e w' ⟨rfl, hw⟩; obtain rfl := hw.symm; clear hw)
              all_goals
                go_wp2_with (go_at_call 63; refine (bitM _ k _ ?_ ?_).mono ?_; assumption; omega; rintro e w' ⟨rfl, hw⟩; obtain rfl := hw.symm; clear hw)
                go_roundw
                case rel => exact ⟨k + 1, by omega, by go_num, HN.out, by show Below _ _ _; have := hbw.out; (repeat (first | assumption | exact Below.refl _ _ | refine Below.drew ?_ | refine bel_drewN ?_ _ | refine Below.setCell ?_ (by first | omega | (simp; done) | (simp; omega)) _ | refine Below.alloc ?_ (by first | omega | (simp; done) | (simp; omega)) _ | refine bel_of ?_ (by assumption))), by rw [← HV.out]; simp [go_sem, *], by rw [← HC.out]; simp [go_sem, *], by simp [go_sem, *], by simp [go_sem, *]⟩
                case measure => simp [intOf]; omega
      · skip
        obtain ed | ed : tb d k = 0 ∨ tb d k = 1 := by omega
        · skip
          have zx := ok_tb h2 ed
          obtain ev | ev : tb v k = 0 ∨ tb v k = 1 := by omega
          · skip
            have ic : ((tb c k : Nat) : Int) = 1 := by omega
            have id : ((tb d k : Nat) : Int) = 0 := by omega
            have iv : ((tb v k : Nat) : Int) = 0 := by omega
            have ix : ((tb x k : Nat) : Int) = 0 := by omega
            have HN : Hid (∀ j, j < k + 1 → tb c j = 1 → tb d j = 1 → tb v j = tb x j) := fun j hj q1 q2 => by
              by_cases ej : j = k
              · subst ej; omega
              · exact hag.out j (by omega) q1 q2
            have tC : tb (c ||| d) k = 1 := (tb_or_one _ _ _).2 (by omega)
            have HC : Hid (((hi (c ||| d) k : Nat) : Int) + 2 ^ (7 - k) = ((hi (c ||| d) (k + 1) : Nat) : Int)) := (hi_one (or_lt hc hd) hlt tC).1
            have LC : ((hi (c ||| d) k : Nat) : Int) + 2 ^ (7 - k) < 256 := (hi_one (or_lt hc hd) hlt tC).2
            have PC : 0 ≤ ((hi (c ||| d) k : Nat) : Int) + 2 ^ (7 - k) := by exact Int.add_nonneg (Int.natCast_nonneg _) (Int.pow_nonneg (by decide))
            clear tC
            have tV : tb (v ||| x) k = 0 := tb_or_zero (by omega) (by omega)
            have HV : Hid (((hi (v ||| x) (k + 1) : Nat) : Int) = ((hi (v ||| x) k : Nat) : Int)) := hi_nil hlt tV
            clear tV
            clear l1 l2 l3 l4 hag h1 h2
            go_wp2_with (go_at_call 63; refine (bitM _ k _ ?_ ?_).mono ?_; assumption; omega; rintro e w' ⟨rfl, hw⟩; obtain rfl := hw.symm; clear hw)
            go_quiet ((go_at_call 63; exact Calls.quiet_of_same (bitM _ k _ (by assumption) (by omega))))
            go_wp2_with (go_at_call 63; refine (bitM _ k _ ?_ ?_).mono ?_; assumption; omega; rintro e w' ⟨rfl, hw⟩; obtain rfl := hw.symm; clear hw)
            go_region_with (go_at_call 67; refine (oneM k _ ?_).mono ?_; omega; rintro e w' ⟨rfl, hw⟩; obtain rfl := hw.symm; clear hw)
            all_goals
              go_wp2_with (go_at_call 63; refine (bitM _ k _ ?_ ?_).mono ?_; assumption; omega; rintro e w' ⟨rfl, hw⟩; obtain rfl := hw.symm; clear hw)
              go_roundw
              case rel => exact ⟨k + 1, by omega, by go_num, HN.out, by show Below _ _ _; have := hbw.out; (repeat (first | assumption | exact Below.refl _ _ | refine Below.drew ?_ | refine bel_drewN ?_ _ | refine Below.setCell ?_ (by first | omega | (simp; done) | (simp; omega)) _ | refine Below.alloc ?_ (by first | omega | (simp; done) | (simp; omega)) _ | refine bel_of ?_ (by assumption))), by rw [HV.out]; simp [go_sem, *], by rw [← HC.out]; simp [go_sem, *], by simp [go_sem, *], by simp [go_sem, *]⟩
              case measure => simp [intOf]; omega
          · skip
            have ic : ((tb c k : Nat) : Int) = 1 := by omega
            have id : ((tb d k : Nat) : Int) = 0 := by omega
            have iv : ((tb v k : Nat) : Int) = 1 := by omega
            have ix : ((tb x k : Nat) : Int) = 0 := by omega
            have HN : Hid (∀ j, j < k + 1 → tb c j = 1 → tb d j = 1 → tb v j = tb x j) := fun j hj q1 q2 => by
              by_cases ej : j = k
              · subst ej; omega
              · exact hag.out j (by omega) q1 q2
            have tC : tb (c ||| d) k = 1 := (tb_or_one _ _ _).2 (by omega)
            have HC : Hid (((hi (c ||| d) k : Nat) : Int) + 2 ^ (7 - k) = ((hi (c ||| d) (k + 1) : Nat) : Int)) := (hi_one (or_lt hc hd) hlt tC).1
            have LC : ((hi (c ||| d) k : Nat) : Int) + 2 ^ (7 - k) < 256 := (hi_one (or_lt hc hd) hlt tC).2
            have PC : 0 ≤ ((hi (c ||| d) k : Nat) : Int) + 2 ^ (7 - k) := by exact Int.add_nonneg (Int.natCast_nonneg _) (Int.pow_nonneg (by decide))
            clear tC
            have tV : tb (v ||| x) k = 1 := (tb_or_one _ _ _).2 (by omega)
            have HV : Hid (((hi (v ||| x) k : Nat) : Int) + 2 ^ (7 - k) = ((hi (v ||| x) (k + 1) : Nat) : Int)) := (hi_one (or_lt hv hx) hlt tV).1
            have LV : ((hi (v ||| x) k : Nat) : Int) + 2 ^ (7 - k) < 256 := (hi_one (or_lt hv hx) hlt tV).2
            have PV : 0 ≤ ((hi (v ||| x) k : Nat) : Int) + 2 ^ (7 - k) := by exact Int.add_nonneg (Int.natCast_nonneg _) (Int.pow_nonneg (by decide))
            clear tV
            clear l1 l2 l3 l4 hag h1 h2
            go_wp2_with (go_at_call 63; refine (bitM _ k _ ?_ ?_).mono ?_; assumption; omega; rintro e w' ⟨rfl, hw⟩; obtain rfl := hw.symm; clear hw)
            go_quiet ((go_at_call 63; exact Calls.quiet_of_same (bitM _ k _ (by assumption) (by omega))))
            go_wp2_with (go_at_call 63; refine (bitM _ k _ ?_ ?_).mono ?_; assumption; omega; rintro e w' ⟨rfl, hw⟩; obtain rfl := hw.symm; clear hw)
            go_region_with (go_at_call 67; refine (oneM k _ ?_).mono ?_; omega; rintro e w' ⟨rfl, hw⟩; obtain rfl := hw.symm; clear hw)
            all_goals
              go_wp2_with (go_at_call 63; refine (bitM _ k _ ?_ ?_).mono ?_; assumption; omega; rintro e w' ⟨rfl, hw⟩; obtain rfl := hw.symm; clear hw)
              go_region_with (go_at_call 67; refine (oneM k _ ?_).mono ?_; omega; rintro e w' ⟨rfl, hw⟩; obtain rfl := hw.symm; clear hw)
              all_goals
                go_wp2_with (go_at_call 63; refine (bitM _ k _ ?_ ?_).mono ?_; assumption; omega; rintro e w' ⟨rfl, hw⟩; obtain rfl := hw.symm; clear hw)
                go_roundw
                case rel => exact ⟨k + 1, by omega, by go_num, HN.out, by show Below _ _ _; have := hbw.out; (repeat (first | assumption | exact Below.refl _ _ | refine Below.drew ?_ | refine bel_drewN ?_ _ | refine Below.setCell ?_ (by first | omega | (simp; done) | (simp; omega)) _ | refine Below.alloc ?_ (by first | omega | (simp; done) | (simp; omega)) _ | refine bel_of ?_ (by assumption))), by rw [← HV.out]; simp [go_sem, *], by rw [← HC.out]; simp [go_sem, *], by simp [go_sem, *], by simp [go_sem, *]⟩
                case measure => simp [intOf]; omega
        · skip
          obtain ev | ev : tb v k = 0 ∨ tb v k = 1 := by omega
          · skip
            obtain ex | ex : tb x k = 0 ∨ tb x k = 1 := by omega
            · skip
              have ic : ((tb c k : Nat) : Int) = 1 := by omega
              have id : ((tb d k : Nat) : Int) = 1 := by omega
              have iv : ((tb v k : Nat) : Int) = 0 := by omega
              have ix : ((tb x k : Nat) : Int) = 0 := by omega
              have HN : Hid (∀ j, j < k + 1 → tb c j = 1 → tb d j = 1 → tb v j = tb x j) := fun j hj q1 q2 => by
                by_cases ej : j = k
                · subst ej; omega
                · exact hag.out j (by omega) q1 q2
              have tC : tb (c ||| d) k = 1 := (tb_or_one _ _ _).2 (by omega)
              have HC : Hid (((hi (c ||| d) k : Nat) : Int) + 2 ^ (7 - k) = ((hi (c ||| d) (k + 1) : Nat) : Int)) := (hi_one (or_lt hc hd) hlt tC).1
              have LC : ((hi (c ||| d) k : Nat) : Int) + 2 ^ (7 - k) < 256 := (hi_one (or_lt hc hd) hlt tC).2
              have PC : 0 ≤ ((hi (c ||| d) k : Nat) : Int) + 2 ^ (7 - k) := by exact Int.add_nonneg (Int.natCast_nonneg _) (Int.pow_nonneg (by decide))
              clear tC
              have tV : tb (v ||| x) k = 0 := tb_or_zero (by omega) (by omega)
              have HV : Hid (((hi (v ||| x) (k + 1) : Nat) : Int) = ((hi (v ||| x) k : Nat) : Int)) := hi_nil hlt tV
              clear tV
              clear l1 l2 l3 l4 hag h1 h2
              go_wp2_with (go_at_call 63; refine (bitM _ k _ ?_ ?_).mono ?_; assumption; omega; rintro e w' ⟨rfl, hw⟩; obtain rfl := hw.symm; clear hw)
              go_quiet ((go_at_call 63; exact Calls.quiet_of_same (bitM _ k _ (by assumption) (by omega))))
              go_wp2_with (go_at_call 63; refine (bitM _ k _ ?_ ?_).mono ?_; assumption; omega; rintro e w' ⟨rfl, hw⟩; obtain rfl := hw.symm; clear hw)
              go_region_with (go_at_call 67; refine (oneM k _ ?_).mono ?_; omega; rintro e w' ⟨rfl, hw⟩; obtain rfl := hw.symm; clear hw)
              all_goals
                go_wp2_with (go_at_call 63; refine (bitM _ k _ ?_ ?_).mono ?_; assumption; omega; rintro e w' ⟨rfl, hw⟩; obtain rfl := hw.symm; clear hw)
                go_roundw
                case rel => exact ⟨k + 1, by omega, by go_num, HN.out, by show Below _ _ _; have := hbw.out; (repeat (first | assumption | exact Below.refl _ _ | refine Below.drew ?_ | refine bel_drewN ?_ _ | refine Below.setCell ?_ (by first | omega | (simp; done) | (simp; omega)) _ | refine Below.alloc ?_ (by first | omega | (simp; done) | (simp; omega)) _ | refine bel_of ?_ (by assumption))), by rw [HV.out]; simp [go_sem, *], by rw [← HC.out]; simp [go_sem, *], by simp [go_sem, *], by simp [go_sem, *]⟩
                case measure => simp [intOf]; omega
            · skip
              have ic : ((tb c k : Nat) : Int) = 1 := by omega
              have id : ((tb d k : Nat) : Int) = 1 := by omega
              have iv : ((tb v k : Nat) : Int) = 0 := by omega
              have ix : ((tb x k : Nat) : Int) = 1 := by omega
              have HA : Hid (apM v c x d = true) := by
                show _ = true
                cases hq : apM v c x d
                · have := (ap_bits hc).1 hq k hlt (by omega) (by omega); omega
                · rfl
              clear l1 l2 l3 l4 hag h1 h2
              go_wp2_with (go_at_call 63; refine (bitM _ k _ ?_ ?_).mono ?_; assumption; omega; rintro e w' ⟨rfl, hw⟩; obtain rfl := hw.symm; clear hw)
              go_quiet ((go_at_call 63; exact Calls.quiet_of_same (bitM _ k _ (by assumption) (by omega))))
              go_wp2_with (fail)
              rw [show meetV v c x d = .tuple #[.agg #[.int .u8 0, .int .u8 0], .bool false] by unfold meetV; rw [HA.out]; rfl]
              exact bodyPost_ret (v := .tuple #[.agg #[.int .u8 0, .int .u8 0], .bool false]) (by simp [results, Tryz.results48, go_sem, *]) rfl ⟨rfl, by have := hBW.out; (repeat (first | assumption | exact Below.refl _ _ | refine Below.drew ?_ | refine bel_drewN ?_ _ | refine Below.setCell ?_ (by first | omega | (simp; done) | (simp; omega)) _ | refine Below.alloc ?_ (by first | omega | (simp; done) | (simp; omega)) _ | refine bel_of ?_ (by assumption)))⟩
          · skip
            obtain ex | ex : tb x k = 0 ∨ tb x k = 1 := by omega
            · skip
              have ic : ((tb c k : Nat) : Int) = 1 := by omega
              have id : ((tb d k : Nat) : Int) = 1 := by omega
              have iv : ((tb v k : Nat) : Int) = 1 := by omega
              have ix : ((tb x k : Nat) : Int) = 0 := by omega
              have HA : Hid (apM v c x d = true) := by
                show _ = true
                cases hq : apM v c x d
                · have := (ap_bits hc).1 hq k hlt (by omega) (by omega); omega
                · rfl
              clear l1 l2 l3 l4 hag h1 h2
              go_wp2_with (go_at_call 63; refine (bitM _ k _ ?_ ?_).mono ?_; assumption; omega; rintro e w' ⟨rfl, hw⟩; obtain rfl := hw.symm; clear hw)
              go_quiet ((go_at_call 63; exact Calls.quiet_of_same (bitM _ k _ (by assumption) (by omega))))
              go_wp2_with (fail)
              rw [show meetV v c x d = .tuple #[.agg #[.int .u8 0, .int .u8 0], .bool false] by unfold meetV; rw [HA.out]; rfl]
              exact bodyPost_ret (v := .tuple #[.agg #[.int .u8 0, .int .u8 0], .bool false]) (by simp [results, Tryz.results48, go_sem, *]) rfl ⟨rfl, by have := hBW.out; (repeat (first | assumption | exact Below.refl _ _ | refine Below.drew ?_ | refine bel_drewN ?_ _ | refine Below.setCell ?_ (by first | omega | (simp; done) | (simp; omega)) _ | refine Below.alloc ?_ (by first | omega | (simp; done) | (simp; omega)) _ | refine bel_of ?_ (by assumption)))⟩
            · skip
              have ic : ((tb c k : Nat) : Int) = 1 := by omega
              have id : ((tb d k : Nat) : Int) = 1 := by omega
              have iv : ((tb v k : Nat) : Int) = 1 := by omega
              have ix : ((tb x k : Nat) : Int) = 1 := by omega
              have HN : Hid (∀ j, j < k + 1 → tb c j = 1 → tb d j = 1 → tb v j = tb x j) := fun j hj q1 q2 => by
                by_cases ej : j = k
                · subst ej; omega
                · exact hag.out j (by omega) q1 q2
              have tC : tb (c ||| d) k = 1 := (tb_or_one _ _ _).2 (by omega)
              have HC : Hid (((hi (c ||| d) k : Nat) : Int) + 2 ^ (7 - k) = ((hi (c ||| d) (k + 1) : Nat) : Int)) := (hi_one (or_lt hc hd) hlt tC).1
              have LC : ((hi (c ||| d) k : Nat) : Int) + 2 ^ (7 - k) < 256 := (hi_one (or_lt hc hd) hlt tC).2
              have PC : 0 ≤ ((hi (c ||| d) k : Nat) : Int) + 2 ^ (7 - k) := by exact Int.add_nonneg (Int.natCast_nonneg _) (Int.pow_nonneg (by decide))
              clear tC
              have tV : tb (v ||| x) k = 1 := (tb_or_one _ _ _).2 (by omega)
              have HV : Hid (((hi (v ||| x) k : Nat) : Int) + 2 ^ (7 - k) = ((hi (v ||| x) (k + 1) : Nat) : Int)) := (hi_one (or_lt hv hx) hlt tV).1
              have LV : ((hi (v ||| x) k : Nat) : Int) + 2 ^ (7 - k) < 256 := (hi_one (or_lt hv hx) hlt tV).2
              have PV : 0 ≤ ((hi (v ||| x) k : Nat) : Int) + 2 ^ (7 - k) := by exact Int.add_nonneg (Int.natCast_nonneg _) (Int.pow_nonneg (by decide))
              clear tV
              clear l1 l2 l3 l4 hag h1 h2
              go_wp2_with (go_at_call 63; refine (bitM _ k _ ?_ ?_).mono ?_; assumption; omega; rintro e w' ⟨rfl, hw⟩; obtain rfl := hw.symm; clear hw)
              go_quiet ((go_at_call 63; exact Calls.quiet_of_same (bitM _ k _ (by assumption) (by omega))))
              go_wp2_with (go_at_call 63; refine (bitM _ k _ ?_ ?_).mono ?_; assumption; omega; rintro e w' ⟨rfl, hw⟩; obtain rfl := hw.symm; clear hw)
              go_region_with (go_at_call 67; refine (oneM k _ ?_).mono ?_; omega; rintro e w' ⟨rfl, hw⟩; obtain rfl := hw.symm; clear hw)
              all_goals
                go_wp2_with (go_at_call 63; refine (bitM _ k _ ?_ ?_).mono ?_; assumption; omega; rintro e w' ⟨rfl, hw⟩; obtain rfl := hw.symm; clear hw)
                go_region_with (go_at_call 67; refine (oneM k _ ?_).mono ?_; omega; rintro e w' ⟨rfl, hw⟩; obtain rfl := hw.symm; clear hw)
                all_goals
                  go_wp2_with (go_at_call 63; refine (bitM _ k _ ?_ ?_).mono ?_; assumption; omega; rintro e w' ⟨rfl, hw⟩; obtain rfl := hw.symm; clear hw)
                  go_roundw
                  case rel => exact ⟨k + 1, by omega, by go_num, HN.out, by show Below _ _ _; have := hbw.out; (repeat (first | assumption | exact Below.refl _ _ | refine Below.drew ?_ | refine bel_drewN ?_ _ | refine Below.setCell ?_ (by first | omega | (simp; done) | (simp; omega)) _ | refine Below.alloc ?_ (by first | omega | (simp; done) | (simp; omega)) _ | refine bel_of ?_ (by assumption))), by rw [← HV.out]; simp [go_sem, *], by rw [← HC.out]; simp [go_sem, *], by simp [go_sem, *], by simp [go_sem, *]⟩
                  case measure => simp [intOf]; omega
    · obtain rfl : k = 8 := by omega
      rw [hi_all] at o0 o1
      have HA : Hid (apM v c x d = false) := (ap_bits hc).2 hag.out
      go_wp2_with (fail)
      rw [show meetV v c x d = .tuple #[.agg #[.int .u8 (v ||| x : Nat), .int .u8 (c ||| d : Nat)], .bool true] by unfold meetV; rw [HA.out]; rfl]
      exact bodyPost_ret (v := .tuple #[.agg #[.int .u8 (v ||| x : Nat), .int .u8 (c ||| d : Nat)], .bool true]) (by simp [results, Tryz.results48, go_sem, *]) rfl ⟨rfl, by have := hBW.out; (repeat (first | assumption | exact Below.refl _ _ | refine Below.drew ?_ | refine bel_drewN ?_ _ | refine Below.setCell ?_ (by first | omega | (simp; done) | (simp; omega)) _ | refine Below.alloc ?_ (by first | omega | (simp; done) | (simp; omega)) _ | refine bel_of ?_ (by assumption)))⟩
theorem rmeet_no (v c x d : Nat) (w : World) (hv : v < 256) (hc : c < 256) (hx : x < 256) (hd : d < 256) (h : (okM v c && okM x d && !apM v c x d) = false) :
    Calls Tryz.prog 48 #[.agg #[.int .u8 v, .int .u8 c], .agg #[.int .u8 x, .int .u8 d]] w fun e w' => e = .returned (.tuple #[.agg #[.int .u8 0, .int .u8 0], .bool false]) ∧ Below w.heap.size w w' := by
  cases ho : (okM v c && okM x d)
  · exact rmeet_bad v c x d w hv hc hx hd ho
  · rw [ho, Bool.true_and] at h
    rw [Bool.and_eq_true] at ho
    have := rmeet_ok v c x d w hv hc hx hd ho.1 ho.2
    unfold meetV at this
    rw [show apM v c x d = true by simpa using h] at this
    exact this
theorem rmeet_yes (v c x d : Nat) (w : World) (hv : v < 256) (hc : c < 256) (hx : x < 256) (hd : d < 256) (h : (okM v c && okM x d && !apM v c x d) = true) :
    Calls Tryz.prog 48 #[.agg #[.int .u8 v, .int .u8 c], .agg #[.int .u8 x, .int .u8 d]] w fun e w' => e = .returned (.tuple #[.agg #[.int .u8 (v ||| x : Nat), .int .u8 (c ||| d : Nat)], .bool true]) ∧ Below w.heap.size w w' := by
  rw [Bool.and_eq_true, Bool.and_eq_true] at h
  have := rmeet_ok v c x d w hv hc hx hd h.1.1 h.1.2
  unfold meetV at this
  rw [show apM v c x d = false by simpa using h.2] at this
  exact this
end Go.Proofs.YtebljklpkoheaaaGreat
