/-
  Rules within one another; halves of a rule; the least header. No program is named here.
-/
import Derived.Test.YtebljklpkoheaaaGreatRuPlE
namespace Go.Proofs.YtebljklpkoheaaaGreat
set_option linter.unusedVariables false

theorem wiR_iff {A B : Ru} : wiR A B = true ↔ okR A = true ∧ okR B = true ∧ wiX (boxR A) (boxR B) = true := by
  cases ha : okR A
  · rw [wiR_no (.inl ha)]; simp
  · cases hb : okR B
    · rw [wiR_no (.inr hb)]; simp
    · rw [wiR_box ha hb]; simp
theorem wi_has {X Y : Bx} (h : wiX X Y = true) {s d p q r : Nat} (hx : hasX X s d p q r = true) : hasX Y s d p q r = true := by
  obtain ⟨h1, h2⟩ := wi_iff.1 h
  obtain ⟨ox, oy, hap, _⟩ := (bothX_iff X Y).1 h1
  have xm := ((okX_iff X).1 ox).2.2.2.2
  have ym := ((okX_iff Y).1 oy).2.2.2.2
  rw [← h2] at hx
  unfold hasX at hx ⊢
  unfold meetB at hx
  simp only [meetI_has, meet_has xm ym hap, Bool.and_eq_true] at hx
  simp only [oy, Bool.and_eq_true, true_and]
  obtain ⟨_, ⟨⟨⟨⟨_, a1⟩, _, a2⟩, _, a3⟩, _, a4⟩, _, a5⟩ := hx
  exact ⟨⟨⟨⟨a1, a2⟩, a3⟩, a4⟩, a5⟩
/-- Two boxes that hold a header have one in common. -/
theorem both_has {X Y : Bx} {s d p q r : Nat} (h1 : hasX X s d p q r = true) (h2 : hasX Y s d p q r = true) : bothX X Y = true := by
  unfold hasX at h1 h2
  simp only [Bool.and_eq_true] at h1 h2
  obtain ⟨ox, ⟨⟨⟨a1, a2⟩, a3⟩, a4⟩, a5⟩ := h1
  obtain ⟨oy, ⟨⟨⟨b1, b2⟩, b3⟩, b4⟩, b5⟩ := h2
  have key : ∀ (s t : Nat × Nat) (x : Nat), hasI s x = true → hasI t x = true → okI (meetI s t) = true := fun s t x e1 e2 => by
    have e1 := of_decide_eq_true e1
    have e2 := of_decide_eq_true e2
    refine decide_eq_true ?_
    unfold meetI
    simp only
    omega
  have hap : apM X.m.1 X.m.2 Y.m.1 Y.m.2 = false := by
    cases hap : apM X.m.1 X.m.2 Y.m.1 Y.m.2
    · rfl
    · have := apart_has (p := r) hap
      rw [a5, b5] at this
      cases this
  exact (bothX_iff X Y).2 ⟨ox, oy, hap, key _ _ _ a1 b1, key _ _ _ a2 b2, key _ _ _ a3 b3, key _ _ _ a4 b4⟩
theorem wiR_has {A B : Ru} (h : wiR A B = true) (x : Hd) (hm : matchR A x = true) : matchR B x = true := by
  obtain ⟨ha, hb, hw⟩ := wiR_iff.1 h
  unfold matchR hasH at *
  rw [ha, Bool.true_and] at hm
  rw [hb, Bool.true_and]
  exact wi_has hw hm
theorem wiR_trans {A B C : Ru} (h1 : wiR A B = true) (h2 : wiR B C = true) : wiR A C = true := by
  obtain ⟨ha, hb, hw⟩ := wiR_iff.1 h1
  obtain ⟨_, hc, hv⟩ := wiR_iff.1 h2
  refine wiR_iff.2 ⟨ha, hc, wi_iff.2 ⟨?_, wi_trans hw hv⟩⟩
  have e := wi_trans hw hv
  have oa := okX_box ha
  have oc := okX_box hc
  rw [both_least oa oc, e]
  have hself : hasX (boxR A) (boxR A).a.1 (boxR A).b.1 (boxR A).c.1 (boxR A).d.1 (boxR A).m.1 = true := by
    obtain ⟨o1, o2, o3, o4, o5⟩ := (okX_iff _).1 oa
    unfold hasX
    have f1 : ∀ s : Nat × Nat, okI s = true → hasI s s.1 = true := fun s h => decide_eq_true ⟨Nat.le_refl _, of_decide_eq_true h⟩
    rw [oa, f1 _ o1, f1 _ o2, f1 _ o3, f1 _ o4, has_self o5]
    rfl
  have hC := wi_has hv (wi_has hw hself)
  rw [hself, hC]
  have hap : apM (boxR A).m.1 (boxR A).m.2 (boxR C).m.1 (boxR C).m.2 = false := by
    have g1 : hasM (boxR A).m.1 (boxR A).m.2 (boxR A).m.1 = true := has_self ((okX_iff _).1 oa).2.2.2.2
    have g2 : hasM (boxR C).m.1 (boxR C).m.2 (boxR A).m.1 = true := by
      unfold hasX at hC
      simp only [Bool.and_eq_true] at hC
      exact hC.2.2
    cases hap : apM (boxR A).m.1 (boxR A).m.2 (boxR C).m.1 (boxR C).m.2
    · rfl
    · have := apart_has (p := (boxR A).m.1) hap
      rw [g1, g2] at this
      cases this
  rw [hap]; rfl
theorem cntR_in {A : Ru} (h : okR A = true) : cntR A = cntX (boxR A) := if_pos h
theorem wiR_le {A B : Ru} (bA : BdR A) (bB : BdR B) (h : wiR A B = true) : cntR A ≤ cntR B := by
  obtain ⟨ha, hb, hw⟩ := wiR_iff.1 h
  rw [cntR_in ha, cntR_in hb]
  exact wi_le (boxR_bd bA ha) (boxR_bd bB hb) hw
theorem wiR_same {A B : Ru} (bA : BdR A) (bB : BdR B) (h : wiR A B = true) : cntR A = cntR B ↔ wiR B A = true := by
  obtain ⟨ha, hb, hw⟩ := wiR_iff.1 h
  rw [cntR_in ha, cntR_in hb, wi_same (boxR_bd bA ha) (boxR_bd bB hb) hw, wiR_iff]
  simp [ha, hb]
/-- Two counts compared by their halves. -/
theorem more_iff (m n : Nat) : (hiW n < hiW m ∨ hiW m = hiW n ∧ loW n < loW m) ↔ n < m := by
  unfold hiW loW; omega
theorem alike_iff (m n : Nat) : (hiW m = hiW n ∧ loW m = loW n) ↔ m = n := by
  unfold hiW loW; omega
/-- A rule with another Src. -/
def withS (R : Ru) (s : Nat) (n : Int) : Ru := ⟨R.i, s, n, R.d, R.dl, R.p, R.q, R.m, R.act⟩
theorem half_ok {R : Ru} (h : okR R = true) {n : Nat} (hn : n < 32) (e : R.sl = (n : Int)) : okR (withS R R.s ((n + 1 : Nat) : Int)) = true ∧ okR (withS R (R.s + Pf.bk (n + 1)) ((n + 1 : Nat) : Int)) = true := by
  obtain ⟨h1, h2, h3, h4, h5, h6, h7⟩ := (okR_iff R).1 h
  rw [e] at h2
  obtain ⟨m, em, _, hz⟩ := Pf.chk_ok h2
  obtain rfl : m = n := by omega
  obtain ⟨z1, z2⟩ := half_mods hn hz
  exact ⟨(okR_iff _).2 ⟨h1, Pf.chk_in _ _ (by omega) z1, h3, h4, h5, h6, h7⟩, (okR_iff _).2 ⟨h1, Pf.chk_in _ _ (by omega) z2, h3, h4, h5, h6, h7⟩⟩
theorem half_cnt {R : Ru} (h : okR R = true) {n : Nat} (hn : n < 32) (e : R.sl = (n : Int)) : cntR (withS R (R.s + Pf.bk (n + 1)) ((n + 1 : Nat) : Int)) = cntR (withS R R.s ((n + 1 : Nat) : Int)) ∧ cntR R = 2 * cntR (withS R R.s ((n + 1 : Nat) : Int)) := by
  obtain ⟨k1, k2⟩ := half_ok h hn e
  rw [cntR_in k1, cntR_in k2, cntR_in h, cnt_box k1, cnt_box k2, cnt_box h, e]
  simp only [withS, Int.toNat_natCast]
  refine ⟨trivial, ?_⟩
  rw [Pf.bk_succ n hn]
  simp only [Nat.mul_assoc, Nat.mul_comm, Nat.mul_left_comm]
theorem half_match {R : Ru} (h : okR R = true) {n : Nat} (hn : n < 32) (e : R.sl = (n : Int)) (x : Hd) : matchR R x = (matchR (withS R R.s ((n + 1 : Nat) : Int)) x != matchR (withS R (R.s + Pf.bk (n + 1)) ((n + 1 : Nat) : Int)) x) ∧ (matchR (withS R R.s ((n + 1 : Nat) : Int)) x && matchR (withS R (R.s + Pf.bk (n + 1)) ((n + 1 : Nat) : Int)) x) = false := by
  obtain ⟨k1, k2⟩ := half_ok h hn e
  rw [match_in h, match_in k1, match_in k2]
  have c0 := ((okR_iff R).1 h).2.1
  have c1 : Pf.chk R.s ((n + 1 : Nat) : Int) = 0 := ((okR_iff _).1 k1).2.1
  have c2 : Pf.chk (R.s + Pf.bk (n + 1)) ((n + 1 : Nat) : Int) = 0 := ((okR_iff _).1 k2).2.1
  rw [e] at c0 ⊢
  simp only [withS]
  rw [Pf.hasB_in c0, Pf.hasB_in c1, Pf.hasB_in c2]
  obtain ⟨m, em, _, hz⟩ := Pf.chk_ok c0
  obtain rfl : m = n := by omega
  obtain ⟨q1, q2⟩ := half_has hn hz x.s
  rw [q1]
  revert q2
  generalize decide (Pf.ct x.s (m + 1) = R.s) = u
  generalize decide (Pf.ct x.s (m + 1) = R.s + Pf.bk (m + 1)) = v
  generalize Pf.hasB R.d R.dl x.d = a
  generalize hasI R.p x.p = b
  generalize hasI R.q x.q = c
  generalize hasM R.m.1 R.m.2 x.r = d
  cases u <;> cases v <;> cases a <;> cases b <;> cases c <;> cases d <;> simp
theorem half_apart {R : Ru} (h : okR R = true) {n : Nat} (hn : n < 32) (e : R.sl = (n : Int)) : bothR (withS R R.s ((n + 1 : Nat) : Int)) (withS R (R.s + Pf.bk (n + 1)) ((n + 1 : Nat) : Int)) = false := by
  obtain ⟨k1, k2⟩ := half_ok h hn e
  unfold bothR
  rw [k1, k2, Bool.true_and, Bool.true_and]
  refine not_both (.inl ?_)
  show okI (meetI (runP R.s ((n + 1 : Nat) : Int)) (runP (R.s + Pf.bk (n + 1)) ((n + 1 : Nat) : Int))) = false
  have hp := Pf.bk_pos (n + 1)
  refine decide_eq_false ?_
  unfold meetI runP
  simp only [Int.toNat_natCast]
  omega
theorem two_hi {n m : Nat} (h : n = 2 * m) (hb : n < 340282366920938463463374607431768211456) : hiW n = hiW m + hiW m + loW m / 9223372036854775808 ∧ loW n = (loW m + loW m) % 18446744073709551616 := by
  unfold hiW loW; omega
theorem cntR_lt {R : Ru} (b : BdR R) : cntR R < 340282366920938463463374607431768211456 := by
  unfold cntR
  split
  · exact Nat.lt_of_le_of_lt (cntX_le (boxR_bd b (by assumption))) (by decide)
  · decide
/-- What both match stands at the least header of both or behind it. -/
theorem least_match {A B : Ru} {x : Hd} (h1 : matchR A x = true) (h2 : matchR B x = true) : bothR A B = true ∧ (meetR A B).s ≤ x.s ∧ (meetR A B).d ≤ x.d ∧ (meetR A B).p ≤ x.p ∧ (meetR A B).q ≤ x.q ∧ (meetR A B).r ≤ x.r := by
  unfold matchR hasH at h1 h2
  rw [Bool.and_eq_true] at h1 h2
  obtain ⟨ha, h1⟩ := h1
  obtain ⟨hb, h2⟩ := h2
  have hbo : bothX (boxR A) (boxR B) = true := both_has h1 h2
  have e : bothR A B = true := by unfold bothR; rw [ha, hb, hbo]; rfl
  refine ⟨e, ?_⟩
  unfold meetR
  rw [if_pos e]
  exact least_le h1 h2
theorem meetR_match {A B : Ru} (h : bothR A B = true) : matchR A (meetR A B) = true ∧ matchR B (meetR A B) = true := by
  have e : meetR A B = leastX (meetB (boxR A) (boxR B)) := if_pos h
  unfold bothR at h
  simp only [Bool.and_eq_true] at h
  obtain ⟨⟨ha, hb⟩, hbo⟩ := h
  rw [both_least (okX_box ha) (okX_box hb)] at hbo
  simp only [Bool.and_eq_true] at hbo
  rw [e]
  unfold matchR hasH
  rw [ha, hb, Bool.true_and, Bool.true_and]
  exact hbo.2
theorem meet_self (R : Ru) : bothR R R = okR R ∧ (okR R = true → meetR R R = leastX (boxR R)) := by
  have key : okR R = true → bothR R R = true := fun h => by
    obtain ⟨o1, o2, o3, o4, o5⟩ := (okX_iff _).1 (okX_box h)
    unfold bothR
    rw [h, Bool.true_and, Bool.true_and]
    refine both_has (s := (boxR R).a.1) (d := (boxR R).b.1) (p := (boxR R).c.1) (q := (boxR R).d.1) (r := (boxR R).m.1) ?_ ?_ <;>
    · unfold hasX
      have f1 : ∀ s : Nat × Nat, okI s = true → hasI s s.1 = true := fun s h => decide_eq_true ⟨Nat.le_refl _, of_decide_eq_true h⟩
      rw [okX_box h, f1 _ o1, f1 _ o2, f1 _ o3, f1 _ o4, has_self o5]
      rfl
  refine ⟨?_, fun h => ?_⟩
  · cases h : okR R
    · unfold bothR; rw [h]; rfl
    · exact key h
  · unfold meetR
    rw [if_pos (key h)]
    unfold meetB leastX meetI
    simp
end Go.Proofs.YtebljklpkoheaaaGreat
