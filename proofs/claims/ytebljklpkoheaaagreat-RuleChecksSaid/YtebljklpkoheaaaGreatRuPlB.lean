/-
  Rules: one within another; the least header of both. No program is named here.
-/
import Derived.Test.YtebljklpkoheaaaGreatRuPlain
namespace Go.Proofs.YtebljklpkoheaaaGreat
set_option linter.unusedVariables false

theorem okI_least (s t : Nat × Nat) : okI (meetI s t) = (hasI s (meetI s t).1 && hasI t (meetI s t).1) := by
  unfold okI hasI meetI
  rw [Bool.eq_iff_iff]
  simp only [decide_eq_true_eq, Bool.and_eq_true]
  omega
/-- Two boxes that may be have a header in common just if the least that could be is in both. -/
theorem both_least {X Y : Bx} (hx : okX X = true) (hy : okX Y = true) : bothX X Y = (!apM X.m.1 X.m.2 Y.m.1 Y.m.2 && (hasX X (meetB X Y).a.1 (meetB X Y).b.1 (meetB X Y).c.1 (meetB X Y).d.1 (meetB X Y).m.1 && hasX Y (meetB X Y).a.1 (meetB X Y).b.1 (meetB X Y).c.1 (meetB X Y).d.1 (meetB X Y).m.1)) := by
  have xm := ((okX_iff X).1 hx).2.2.2.2
  have ym := ((okX_iff Y).1 hy).2.2.2.2
  cases hap : apM X.m.1 X.m.2 Y.m.1 Y.m.2
  · have hm : hasM (X.m.1 ||| Y.m.1) (X.m.2 ||| Y.m.2) (X.m.1 ||| Y.m.1) = true := has_self (meet_ok xm ym)
    rw [meet_has xm ym hap, Bool.and_eq_true] at hm
    rw [Bool.eq_iff_iff, bothX_iff]
    unfold hasX meetB
    simp only [hx, hy, hap, hm.1, hm.2, Bool.not_false, Bool.true_and, Bool.and_true, true_and, okI_least, Bool.and_eq_true]
    constructor
    · rintro ⟨⟨a1, a2⟩, ⟨b1, b2⟩, ⟨c1, c2⟩, d1, d2⟩
      exact ⟨⟨⟨⟨a1, b1⟩, c1⟩, d1⟩, ⟨⟨a2, b2⟩, c2⟩, d2⟩
    · rintro ⟨⟨⟨⟨a1, b1⟩, c1⟩, d1⟩, ⟨⟨a2, b2⟩, c2⟩, d2⟩
      exact ⟨⟨a1, a2⟩, ⟨b1, b2⟩, ⟨c1, c2⟩, d1, d2⟩
  · rw [not_both (.inr (.inr (.inr (.inr hap))))]
    rfl
/-- Prefixes: one run within another. -/
theorem run_in {a b n m : Nat} (hn : n ≤ 32) (hm : m ≤ 32) (h1 : a % Pf.bk n = 0) (h2 : b % Pf.bk m = 0) : (b ≤ a ∧ a + (Pf.bk n - 1) ≤ b + (Pf.bk m - 1)) ↔ m ≤ n ∧ Pf.ct a m = b := by
  have p1 := Pf.bk_pos n
  have p2 := Pf.bk_pos m
  constructor
  · rintro ⟨e1, e2⟩
    refine ⟨?_, (ct_between h2).2 ⟨e1, by omega⟩⟩
    rcases Nat.lt_or_ge n m with h | h
    · exfalso
      have : Pf.bk m < Pf.bk n := by
        unfold Pf.bk
        exact Nat.pow_lt_pow_right (by decide) (by omega)
      omega
    · exact h
  · rintro ⟨e1, e2⟩
    obtain ⟨q1, q2⟩ := (ct_between h2).1 e2
    refine ⟨q1, ?_⟩
    obtain ⟨c, hc⟩ := Pf.bk_dvd m n e1
    have h3 : b % Pf.bk n = 0 := Pf.mod_longer b m n e1 h2
    obtain ⟨u, hu⟩ : ∃ u, a = Pf.bk n * u := ⟨a / Pf.bk n, by have := Nat.div_add_mod a (Pf.bk n); rw [h1] at this; omega⟩
    obtain ⟨v, hv⟩ : ∃ v, b = Pf.bk n * v := ⟨b / Pf.bk n, by have := Nat.div_add_mod b (Pf.bk n); rw [h3] at this; omega⟩
    have l : Pf.bk n * u < Pf.bk n * (v + c) := by rw [Nat.mul_add, ← hc, ← hu, ← hv]; omega
    have l1 := Nat.lt_of_mul_lt_mul_left l
    have l2 : Pf.bk n * (u + 1) ≤ Pf.bk n * (v + c) := Nat.mul_le_mul_left _ l1
    rw [Nat.mul_add, Nat.mul_add, ← hc, ← hu, ← hv, Nat.mul_one] at l2
    omega
theorem meet_left {s t : Nat × Nat} : meetI s t = s ↔ t.1 ≤ s.1 ∧ s.2 ≤ t.2 := by
  unfold meetI
  obtain ⟨s1, s2⟩ := s
  simp only [Prod.mk.injEq]
  omega
/-- One rule within another, field by field. -/
def wiR (A B : Ru) : Bool := okR A && okR B && decide (B.sl ≤ A.sl ∧ Pf.ct A.s B.sl.toNat = B.s) && decide (B.dl ≤ A.dl ∧ Pf.ct A.d B.dl.toNat = B.d) && decide (B.p.1 ≤ A.p.1 ∧ A.p.2 ≤ B.p.2) && decide (B.q.1 ≤ A.q.1 ∧ A.q.2 ≤ B.q.2) && wiM A.m.1 A.m.2 B.m.1 B.m.2
theorem wiR_box {A B : Ru} (ha : okR A = true) (hb : okR B = true) : wiX (boxR A) (boxR B) = wiR A B := by
  obtain ⟨_, a2, a3, a4, a5, a6, _⟩ := (okR_iff A).1 ha
  obtain ⟨_, b2, b3, b4, b5, b6, _⟩ := (okR_iff B).1 hb
  obtain ⟨n1, e1, l1, z1⟩ := Pf.chk_ok a2
  obtain ⟨n2, e2, l2, z2⟩ := Pf.chk_ok a3
  obtain ⟨k1, f1, r1, y1⟩ := Pf.chk_ok b2
  obtain ⟨k2, f2, r2, y2⟩ := Pf.chk_ok b3
  have w1 := run_in l1 r1 z1 y1
  have w2 := run_in l2 r2 z2 y2
  rw [Bool.eq_iff_iff]
  unfold wiX wiR
  simp only [Bool.and_eq_true, decide_eq_true_eq, ha, hb, true_and, bothX_iff, okX_box ha, okX_box hb]
  have em : meetB (boxR A) (boxR B) = boxR A ↔ (meetI (runP A.s A.sl) (runP B.s B.sl) = runP A.s A.sl ∧ meetI (runP A.d A.dl) (runP B.d B.dl) = runP A.d A.dl ∧ meetI A.p B.p = A.p ∧ meetI A.q B.q = A.q ∧ (A.m.1 ||| B.m.1 = A.m.1 ∧ A.m.2 ||| B.m.2 = A.m.2)) := by
    unfold meetB boxR
    rw [Bx.mk.injEq]
    constructor
    · rintro ⟨h1, h2, h3, h4, h5⟩
      exact ⟨h1, h2, h3, h4, congrArg Prod.fst h5, congrArg Prod.snd h5⟩
    · rintro ⟨h1, h2, h3, h4, h5, h6⟩
      exact ⟨h1, h2, h3, h4, Prod.ext h5 h6⟩
  rw [em, meet_left, meet_left, meet_left, meet_left]
  unfold wiM
  simp only [a6, b6, Bool.true_and, Bool.and_eq_true, Bool.not_eq_true', decide_eq_true_eq]
  have g1 : (runP B.s B.sl).1 ≤ (runP A.s A.sl).1 ∧ (runP A.s A.sl).2 ≤ (runP B.s B.sl).2 ↔ B.sl ≤ A.sl ∧ Pf.ct A.s B.sl.toNat = B.s := by
    rw [e1, f1]
    unfold runP
    simp only [Int.toNat_natCast]
    rw [w1]
    omega
  have g2 : (runP B.d B.dl).1 ≤ (runP A.d A.dl).1 ∧ (runP A.d A.dl).2 ≤ (runP B.d B.dl).2 ↔ B.dl ≤ A.dl ∧ Pf.ct A.d B.dl.toNat = B.d := by
    rw [e2, f2]
    unfold runP
    simp only [Int.toNat_natCast]
    rw [w2]
    omega
  rw [g1, g2]
  constructor
  · rintro ⟨⟨hap, _⟩, h1, h2, h3, h4, h5⟩
    exact ⟨⟨⟨⟨h1, h2⟩, h3⟩, h4⟩, hap, h5⟩
  · rintro ⟨⟨⟨⟨h1, h2⟩, h3⟩, h4⟩, hap, h5⟩
    have i1 : meetI (boxR A).a (boxR B).a = (boxR A).a := meet_left.2 (g1.2 h1)
    have i2 : meetI (boxR A).b (boxR B).b = (boxR A).b := meet_left.2 (g2.2 h2)
    have i3 : meetI (boxR A).c (boxR B).c = (boxR A).c := meet_left.2 h3
    have i4 : meetI (boxR A).d (boxR B).d = (boxR A).d := meet_left.2 h4
    refine ⟨⟨hap, ?_, ?_, ?_, ?_⟩, h1, h2, h3, h4, h5⟩
    · rw [i1]; exact okI_run _ _
    · rw [i2]; exact okI_run _ _
    · rw [i3]; exact a4
    · rw [i4]; exact a5
end Go.Proofs.YtebljklpkoheaaaGreat
