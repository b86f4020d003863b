/-
  What the small functions of package mask, and of the document's answer, hand back: one contract a function, for every world; each makes memory of its own alone.
-/
import Derived.Test.YtebljklpkoheaaaGreatProg
import Derived.Test.YtebljklpkoheaaaGreatMkPlB
import Derived.Test.YtebljklpkoheaaaGreatPxKin
namespace Go.Proofs.YtebljklpkoheaaaGreat
open Go.RowKit
set_option linter.unusedVariables false
set_option linter.unusedSimpArgs false

def chk (v c : Nat) : Int := if okM v c then 0 else 40
theorem chk_ok {v c : Nat} (h : okM v c = true) : chk v c = 0 := by unfold chk; rw [if_pos h]
theorem chk_no {v c : Nat} (h : okM v c = false) : chk v c = 40 := by unfold chk; rw [h]; rfl
theorem checkM (v c : Nat) (w : World) (hv : v < 256) (hc : c < 256) :
    Calls Tryz.prog 31 #[.agg #[.int .u8 v, .int .u8 c]] w fun e w' => e = .returned (.int .i64 (chk v c)) ∧ Below w.heap.size w w' := by
  cases h : okM v c
  · have h' : ¬ bits .andNot .u8 (v : Int) (c : Int) = 0 := by
      rw [u8_andNot_nat _ _ hv hc]
      intro e
      have : v &&& (255 - c) = 0 := by omega
      rw [ok_andNot hc hv, h] at this; cases this
    rw [chk_no h]
    clear h
    go_enter Tryz.func31, Tryz.ntmps31
    go_wp2
    go_ret
    exact ⟨rfl, by (repeat (first | assumption | exact Below.refl _ _ | refine Below.drew ?_ | refine bel_drewN ?_ _ | refine Below.setCell ?_ (by first | omega | (simp; done) | (simp; omega)) _ | refine Below.alloc ?_ (by first | omega | (simp; done) | (simp; omega)) _ | refine bel_of ?_ (by assumption)))⟩
  · have h' : bits .andNot .u8 (v : Int) (c : Int) = 0 := by
      rw [u8_andNot_nat _ _ hv hc, (ok_andNot hc hv).2 h]; rfl
    rw [chk_ok h]
    clear h
    go_enter Tryz.func31, Tryz.ntmps31
    go_wp2
    go_ret
    exact ⟨rfl, by (repeat (first | assumption | exact Below.refl _ _ | refine Below.drew ?_ | refine bel_drewN ?_ _ | refine Below.setCell ?_ (by first | omega | (simp; done) | (simp; omega)) _ | refine Below.alloc ?_ (by first | omega | (simp; done) | (simp; omega)) _ | refine bel_of ?_ (by assumption)))⟩
theorem hasC (v c p : Nat) (w : World) (hp : p < 256) (hc : c < 256) :
    Calls Tryz.prog 44 #[.agg #[.int .u8 v, .int .u8 c], .int .u8 p] w fun e w' => e = .returned (.bool (hasM v c p)) ∧ Below w.heap.size w w' := by
  go_enter Tryz.func44, Tryz.ntmps44
  go_wp2
  go_ret
  refine ⟨ret_same ?_, by (repeat (first | assumption | exact Below.refl _ _ | refine Below.drew ?_ | refine bel_drewN ?_ _ | refine Below.setCell ?_ (by first | omega | (simp; done) | (simp; omega)) _ | refine Below.alloc ?_ (by first | omega | (simp; done) | (simp; omega)) _ | refine bel_of ?_ (by assumption)))⟩
  rw [u8_and_nat _ _ hp hc]
  unfold hasM
  rw [Bool.eq_iff_iff]
  simp <;> omega
theorem apartM (v c x d : Nat) (w : World) (hv : v < 256) (hc : c < 256) (hx : x < 256) (hd : d < 256) :
    Calls Tryz.prog 79 #[.agg #[.int .u8 v, .int .u8 c], .agg #[.int .u8 x, .int .u8 d]] w fun e w' => e = .returned (.bool (apM v c x d)) ∧ Below w.heap.size w w' := by
  go_enter Tryz.func79, Tryz.ntmps79
  go_wp2
  go_ret
  refine ⟨ret_same ?_, by (repeat (first | assumption | exact Below.refl _ _ | refine Below.drew ?_ | refine bel_drewN ?_ _ | refine Below.setCell ?_ (by first | omega | (simp; done) | (simp; omega)) _ | refine Below.alloc ?_ (by first | omega | (simp; done) | (simp; omega)) _ | refine bel_of ?_ (by assumption)))⟩
  rw [u8_xor_nat _ _ hv hx, u8_and_nat _ _ (xor_lt hv hx) hc, u8_and_nat _ _ (and_lt' hc) hd]
  unfold apM
  rw [Bool.eq_iff_iff]
  simp <;> omega
theorem mayBe_any (v c x d : Nat) (w : World) (hv : v < 256) (hc : c < 256) (hx : x < 256) (hd : d < 256) :
    Calls Tryz.prog 78 #[.agg #[.int .u8 v, .int .u8 c], .agg #[.int .u8 x, .int .u8 d]] w fun e w' => e = .returned (.bool (okM v c && okM x d)) ∧ Below w.heap.size w w' := by
  cases h : okM v c
  · have hk := chk_no h
    have hcal := fun W => checkM v c W hv hc
    rw [hk] at hcal
    rw [Bool.false_and]
    clear hk h
    go_enter Tryz.func78, Tryz.ntmps78
    go_wp2_with (fail)
    refine (hcal _).mono ?_
    rintro e w1 ⟨rfl, hb1⟩
    go_wp2
    go_ret
    exact ⟨rfl, by (repeat (first | assumption | exact Below.refl _ _ | refine Below.drew ?_ | refine bel_drewN ?_ _ | refine Below.setCell ?_ (by first | omega | (simp; done) | (simp; omega)) _ | refine Below.alloc ?_ (by first | omega | (simp; done) | (simp; omega)) _ | refine bel_of ?_ (by assumption)))⟩
  · have hk := chk_ok h
    have hcal := fun W => checkM v c W hv hc
    have hcal2 := fun W => checkM x d W hx hd
    rw [hk] at hcal
    rw [Bool.true_and]
    clear hk h
    go_enter Tryz.func78, Tryz.ntmps78
    go_wp2_with (fail)
    refine (hcal _).mono ?_
    rintro e w1 ⟨rfl, hb1⟩
    have c0 : w1.cell? ⟨w.heap.size + 1, 0, none⟩ = some (.int .u8 x) := cell_on1 hb1 (by simp [go_sem])
    have c1 : w1.cell? ⟨w.heap.size + 1, 1, none⟩ = some (.int .u8 d) := cell_on1 hb1 (by simp [go_sem])
    have hz1 := hb1.size
    simp at hz1
    have hbw : Hid (Below w.heap.size w w1) := by show Below _ _ _; (repeat (first | assumption | exact Below.refl _ _ | refine Below.drew ?_ | refine bel_drewN ?_ _ | refine Below.setCell ?_ (by first | omega | (simp; done) | (simp; omega)) _ | refine Below.alloc ?_ (by first | omega | (simp; done) | (simp; omega)) _ | refine bel_of ?_ (by assumption)))
    clear hb1 hcal
    go_wp2_with (fail)
    refine (hcal2 _).mono ?_
    rintro e w2 ⟨rfl, hb2⟩
    have hbw2 : Hid (Below w.heap.size w w2) := hbw.out.trans (hb2.mono (by omega))
    clear hb2 hcal2
    cases h : okM x d
    · rw [chk_no h]
      go_wp2
      go_ret
      exact ⟨ret_same h.symm, hbw2.out⟩
    · rw [chk_ok h]
      go_wp2
      go_ret
      exact ⟨ret_same h.symm, hbw2.out⟩
theorem bitM (a i : Nat) (w : World) (ha : a < 256) (hi : i ≤ 7) :
    Calls Tryz.prog 63 #[.int .u8 a, .int .i64 i] w fun e w' => e = .returned (.int .i64 (tb a i : Int)) ∧ w' = w := by
  go_enter Tryz.func63, Tryz.ntmps63
  go_wp2
  go_ret
  refine ⟨ret_int ?_, rfl⟩
  have e : (a : Int) / 2 ^ (7 - i) = ((a / 2 ^ (7 - i) : Nat) : Int) := by simp
  have l : a / 2 ^ (7 - i) ≤ a := Nat.div_le_self _ _
  rw [e]
  unfold tb
  generalize a / 2 ^ (7 - i) = y at l
  rw [show wrap64 (y : Int) = (y : Int) by unfold wrap64; omega, Int.tmod_eq_emod_of_nonneg (by omega)]
  omega
theorem oneM (i : Nat) (w : World) (hi : i ≤ 7) :
    Calls Tryz.prog 67 #[.int .i64 i] w fun e w' => e = .returned (.int .u8 ((2 : Int) ^ (7 - i))) ∧ w' = w := by
  go_enter Tryz.func67, Tryz.ntmps67
  go_wp2
  go_ret
  refine ⟨ret_int ?_, rfl⟩
  have := two_lt (7 - i) (by omega)
  have e : (2 : Int) ^ (7 - i) = ((2 ^ (7 - i) : Nat) : Int) := by simp
  rw [e]
  generalize 2 ^ (7 - i) = z at this
  omega
theorem onesM (x : Int) (w : World) (h0 : 0 ≤ x) (h1 : x ≤ 255) :
    Calls Tryz.prog 122 #[.int .u8 x] w fun e w' => e = .returned (.int .i64 (Lib.onesCount x.toNat : Int)) ∧ w' = w := by
  rw [← Lib.pop8_int x h0 h1]
  go_enter Tryz.func122, Tryz.ntmps122
  generalize hy : Lib.pop8 x = y
  go_wp2
  go_ret
  exact ⟨ret_int (by unfold wrap64; rfl), rfl⟩
theorem ones_le8 (x : Nat) (hx : x < 256) : Lib.onesCount x ≤ 8 := Lib.onesCount_le8 ⟨x, hx⟩
theorem countM (v c : Nat) (w : World) (hv : v < 256) (hc : c < 256) :
    Calls Tryz.prog 114 #[.agg #[.int .u8 v, .int .u8 c]] w fun e w' => e = .returned (.int .i64 (cntM v c : Int)) ∧ Below w.heap.size w w' := by
  have hcal := fun W => checkM v c W hv hc
  unfold cntM
  cases h : okM v c
  · rw [chk_no h] at hcal
    go_enter Tryz.func114, Tryz.ntmps114
    go_wp2_with (fail)
    refine (hcal _).mono ?_
    rintro e w1 ⟨rfl, hb1⟩
    go_wp2
    go_ret
    exact ⟨rfl, by (repeat (first | assumption | exact Below.refl _ _ | refine Below.drew ?_ | refine bel_drewN ?_ _ | refine Below.setCell ?_ (by first | omega | (simp; done) | (simp; omega)) _ | refine Below.alloc ?_ (by first | omega | (simp; done) | (simp; omega)) _ | refine bel_of ?_ (by assumption)))⟩
  · rw [chk_ok h] at hcal
    clear h
    have hu := Int.toNat_natCast (255 - c)
    have ho : ∀ W, Calls Tryz.prog 122 #[.int .u8 (((255 - c : Nat)) : Int)] W fun e w' => e = .returned (.int .i64 (Lib.onesCount (255 - c) : Int)) ∧ w' = W := fun W => by
      have := onesM ((255 - c : Nat) : Int) W (by omega) (by omega)
      rw [hu] at this
      exact this
    have hl := ones_le8 (255 - c) (by omega)
    generalize Lib.onesCount (255 - c) = n at ho hl
    clear hu
    have hn : (n : Int) ≤ 8 := by omega
    have hn0 : (0 : Int) ≤ (n : Int) := by omega
    go_enter Tryz.func114, Tryz.ntmps114
    go_wp2_with (fail)
    refine (hcal _).mono ?_
    rintro e w1 ⟨rfl, hb1⟩
    have c1 : w1.cell? ⟨w.heap.size, 1, none⟩ = some (.int .u8 c) := cell_on1 hb1 (by simp [go_sem])
    have hbw : Hid (Below w.heap.size w w1) := by show Below _ _ _; (repeat (first | assumption | exact Below.refl _ _ | refine Below.drew ?_ | refine bel_drewN ?_ _ | refine Below.setCell ?_ (by first | omega | (simp; done) | (simp; omega)) _ | refine Below.alloc ?_ (by first | omega | (simp; done) | (simp; omega)) _ | refine bel_of ?_ (by assumption)))
    have hz1 := hb1.size
    simp at hz1
    clear hb1 hcal
    go_wp2_with (fail)
    have hx : bits .xor .u8 (IntKind.max .u8) (c : Int) = ((255 - c : Nat) : Int) := by
      have e := u8_xor_nat 255 c (by decide) hc
      have e2 : 255 ^^^ c = 255 - c := by
        apply Nat.eq_of_testBit_eq
        intro i
        rw [Nat.testBit_xor, not8 hc, show (255 : Nat) = 2 ^ 8 - 1 from rfl, Nat.testBit_two_pow_sub_one]
        by_cases h8 : i < 8
        · simp [h8]
        · simp [h8, test_ge hc (show 8 ≤ i by omega)]
      rw [e2] at e
      exact e
    rw [hx]
    refine (ho _).mono ?_
    rintro e w2 ⟨rfl, hw2⟩
    obtain rfl := hw2.symm
    go_wp2
    go_ret
    refine ⟨ret_int ?_, hbw.out⟩
    have h8 : 2 ^ n ≤ 2 ^ 8 := Nat.pow_le_pow_right (by decide) hl
    have e : (2 : Int) ^ n = ((2 ^ n : Nat) : Int) := by simp
    rw [e]
    generalize 2 ^ n = z at h8
    unfold wrap64; omega
end Go.Proofs.YtebljklpkoheaaaGreat
