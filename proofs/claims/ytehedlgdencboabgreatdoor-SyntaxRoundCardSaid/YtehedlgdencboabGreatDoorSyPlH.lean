/-
  Stage 10 ahead: what is read may be, as a list; so it is printed, and read as itself. No program is named here.
-/
import Derived.Test.YtehedlgdencboabGreatDoorSyPlG
namespace Go.Proofs.YtehedlgdencboabGreatDoor
set_option linter.unusedVariables false
set_option linter.unusedSimpArgs false

theorem num_le (L : List Tk) (most : Nat) (st : Rd) : (numS L most st).1 ≤ most := by
  unfold numS
  split
  · exact Nat.zero_le _
  · split
    · exact Nat.zero_le _
    · show (tkA L st.a).v ≤ most
      omega
theorem dots_lt (L : List Tk) : ∀ (n x b : Nat) (st : Rd), x < b → (dotsS L n x st).1 < b * 256 ^ n
  | 0, x, b, st, h => by
    show x < b * 256 ^ 0
    simpa using h
  | n + 1, x, b, st, h => by
    show (if (signS L 46 st).1 then dotsS L n (256 * x + (numS L 255 (signS L 46 st).2).1) (numS L 255 (signS L 46 st).2).2 else (0, wrongS L 100 (signS L 46 st).2.a (signS L 46 st).2)).1 < _
    have hb : b * 256 ^ (n + 1) = (256 * b) * 256 ^ n := by rw [Nat.pow_succ, Nat.mul_comm 256 b, Nat.mul_assoc, Nat.mul_comm (256 ^ n) 256]
    have hn := num_le L 255 (signS L 46 st).2
    rw [hb]
    split
    · exact dots_lt L n _ (256 * b) _ (by omega)
    · exact Nat.mul_pos (by omega) (Nat.pow_pos (by decide))
theorem addr_lt (L : List Tk) (st : Rd) : (addrS L st).1 < 4294967296 := by
  have := dots_lt L 3 (numS L 255 st).1 256 (numS L 255 st).2 (by have := num_le L 255 st; omega)
  unfold addrS
  simpa using this
theorem pair_bd (L : List Tk) {c most x : Nat} {one : Nat → Nat} (st : Rd) (h : one x ≤ most) : (pairS L c most one x st).1.1 = x ∧ (pairS L c most one x st).1.2 ≤ most := by
  unfold pairS
  split
  · exact ⟨rfl, num_le _ _ _⟩
  · exact ⟨rfl, h⟩
theorem pref_bd (L : List Tk) (st : Rd) : (prefS L st).1.1 < 4294967296 ∧ (prefS L st).1.2 ≤ 32 := by
  unfold prefS
  split
  · exact ⟨by show 0 < _; decide, Nat.zero_le _⟩
  · have h := pair_bd L (c := 47) (most := 32) (x := (addrS L (signS L 42 st).2).1) (one := fun _ => 32) (addrS L (signS L 42 st).2).2 (Nat.le_refl _)
    exact ⟨by rw [h.1]; exact addr_lt _ _, h.2⟩
theorem span_bd (L : List Tk) (st : Rd) : (spanS L st).1.1 ≤ 65535 ∧ (spanS L st).1.2 ≤ 65535 := by
  unfold spanS
  split
  · exact ⟨Nat.zero_le _, Nat.le_refl _⟩
  · have h := pair_bd L (c := 58) (most := 65535) (x := (numS L 65535 (signS L 42 st).2).1) (one := fun x => x) (numS L 65535 (signS L 42 st).2).2 (num_le _ _ _)
    exact ⟨by rw [h.1]; exact num_le _ _ _, h.2⟩
theorem mask_bd (L : List Tk) (st : Rd) : (maskS L st).1.1 ≤ 255 ∧ (maskS L st).1.2 ≤ 255 := by
  unfold maskS
  split
  · exact ⟨Nat.zero_le _, Nat.zero_le _⟩
  · have h := pair_bd L (c := 47) (most := 255) (x := (numS L 255 (signS L 42 st).2).1) (one := fun _ => 255) (numS L 255 (signS L 42 st).2).2 (Nat.le_refl _)
    exact ⟨by rw [h.1]; exact num_le _ _ _, h.2⟩
/-- What the types bound. -/
structure BdRp (R : Rp) : Prop where
  i : R.i ≤ 4294967295
  t : R.t ≤ 4
  s : R.s.1 < 4294967296 ∧ R.s.2 ≤ 32
  d : R.d.1 < 4294967296 ∧ R.d.2 ≤ 32
  p : R.p.1 ≤ 65535 ∧ R.p.2 ≤ 65535
  q : R.q.1 ≤ 65535 ∧ R.q.2 ≤ 65535
  m : R.m.1 ≤ 255 ∧ R.m.2 ≤ 255
theorem act_le (w : List UInt8) : actOf w ≤ 4 := by
  unfold actOf
  (repeat' split) <;> decide
theorem rule_parts (L : List Tk) (st : Rd) : ∃ w s1 s2 s3 s4 s5, (ruleS L st).1 = ⟨(numS L 4294967295 st).1, actOf w, (prefS L s1).1, (prefS L s2).1, (spanS L s3).1, (spanS L s4).1, (maskS L s5).1⟩ := by
  unfold ruleS
  simp only
  exact ⟨_, _, _, _, _, _, rfl⟩
theorem rule_bd (L : List Tk) (st : Rd) : BdRp (ruleS L st).1 := by
  obtain ⟨w, s1, s2, s3, s4, s5, e⟩ := rule_parts L st
  rw [e]
  exact ⟨num_le L 4294967295 st, act_le w, pref_bd L s1, pref_bd L s2, span_bd L s3, span_bd L s4, mask_bd L s5⟩
theorem wrong_e {L : List Tk} {e i : Nat} {st : Rd} (h : e ≠ 0) : (wrongS L e i st).w.e ≠ 0 := by
  unfold wrongS
  split
  · exact h
  · assumption
theorem end_ok {L : List Tk} {st : Rd} (h : (endS L st).w.e = 0) : endS L st = st ∧ (tkA L st.a).k = 4 := by
  unfold endS at h ⊢
  by_cases c : st.w.e = 0 ∧ (tkA L st.a).k ≠ 4
  · rw [if_pos c] at h
    exact absurd h (wrong_e (by decide))
  · rw [if_neg c] at h ⊢
    exact ⟨rfl, Decidable.byContradiction fun c2 => c ⟨h, c2⟩⟩
theorem many_ok {L : List Tk} {most n f : Nat} {st : Rd} (h : (manyS L most n f st).w.e = 0) : manyS L most n f st = st ∧ n ≠ most := by
  unfold manyS at h ⊢
  by_cases c : st.w.e = 0 ∧ n = most
  · rw [if_pos c] at h
    exact absurd h (wrong_e (by decide))
  · rw [if_neg c] at h ⊢
    exact ⟨rfl, fun c2 => c ⟨h, c2⟩⟩
theorem fld_ok {L : List Tk} {e : Nat × Nat} {at_ : List Nat} {st : Rd} (h : (fldS L e at_ st).w.e = 0) : fldS L e at_ st = st ∧ e.1 = 0 := by
  unfold fldS at h ⊢
  by_cases c : st.w.e = 0 ∧ e.1 ≠ 0
  · rw [if_pos c] at h
    exact absurd h (wrong_e c.2)
  · rw [if_neg c] at h ⊢
    exact ⟨rfl, Decidable.byContradiction fun c2 => c ⟨h, c2⟩⟩
theorem twice_ok {L : List Tk} {b : Bool} {f : Nat} {st : Rd} (h : (twiceS L b f st).w.e = 0) : twiceS L b f st = st ∧ b = false := by
  unfold twiceS at h ⊢
  by_cases c : st.w.e = 0 ∧ b = true
  · rw [if_pos c] at h
    exact absurd h (wrong_e (by decide))
  · rw [if_neg c] at h ⊢
    exact ⟨rfl, Bool.eq_false_iff.2 fun c2 => c ⟨h, c2⟩⟩
/-- A line's rule with nothing wrong. -/
theorem one_ok {chk : Rp → Nat × Nat} {L : List Tk} {out : List Rp} {a : Nat} (h : (oneS chk L out a).2.w.e = 0) :
    oneS chk L out a = ((ruleS L ⟨a, ⟨0, 0, 0⟩⟩).1, (ruleS L ⟨a, ⟨0, 0, 0⟩⟩).2.2) ∧ (tkA L (ruleS L ⟨a, ⟨0, 0, 0⟩⟩).2.2.a).k = 4 ∧ out.length ≠ 64 ∧ (chk (ruleS L ⟨a, ⟨0, 0, 0⟩⟩).1).1 = 0 ∧ ∀ y ∈ out, y.i ≠ (ruleS L ⟨a, ⟨0, 0, 0⟩⟩).1.i := by
  unfold oneS at h ⊢
  simp only at h
  obtain ⟨e1, h1⟩ := twice_ok h
  rw [e1] at h ⊢
  obtain ⟨e2, h2⟩ := fld_ok h
  rw [e2] at h ⊢
  obtain ⟨e3, h3⟩ := many_ok h
  rw [e3] at h ⊢
  obtain ⟨e4, h4⟩ := end_ok h
  rw [e4]
  refine ⟨rfl, h4, h3, h2, fun y hy hi => ?_⟩
  have := List.any_eq_false.1 h1 y hy
  simp [hi] at this
/-- A list of rules that may be. -/
structure GoodR (chk : Rp → Nat × Nat) (l : List Rp) : Prop where
  all : ∀ R ∈ l, BdRp R ∧ (chk R).1 = 0
  len : l.length ≤ 64
  two : (l.map (·.i)).Nodup
theorem good_nil (chk : Rp → Nat × Nat) : GoodR chk [] := ⟨fun R h => (by cases h), (by decide), List.nodup_nil⟩
theorem rulesF_is (chk : Rp → Nat × Nat) (L : List Tk) (n : Nat) (out : List Rp) (a : Nat) : rulesF chk L (n + 1) out a = if a < L.length then (if (tkA L a).k = 4 then rulesF chk L n out (a + 1) else if (oneS chk L out a).2.w.e ≠ 0 then ([], (oneS chk L out a).2.w) else rulesF chk L n (out ++ [(oneS chk L out a).1]) ((oneS chk L out a).2.a + 1)) else (out, ⟨0, 0, 0⟩) := rfl
theorem rulesF_good (chk : Rp → Nat × Nat) (L : List Tk) : ∀ (n : Nat) (out : List Rp) (a : Nat), GoodR chk out → ((rulesF chk L n out a).2.e = 0 → (rulesF chk L n out a).2 = ⟨0, 0, 0⟩ ∧ GoodR chk (rulesF chk L n out a).1) ∧ ((rulesF chk L n out a).2.e ≠ 0 → (rulesF chk L n out a).1 = [])
  | 0, out, a, h => ⟨fun _ => ⟨rfl, h⟩, fun c => absurd rfl c⟩
  | n + 1, out, a, h => by
    rw [rulesF_is]
    by_cases ha : a < L.length
    · rw [if_pos ha]
      by_cases h4 : (tkA L a).k = 4
      · rw [if_pos h4]
        exact rulesF_good chk L n out (a + 1) h
      · rw [if_neg h4]
        have hone := @one_ok chk L out a
        generalize oneS chk L out a = X at hone ⊢
        have hbd := rule_bd L ⟨a, ⟨0, 0, 0⟩⟩
        generalize ruleS L ⟨a, ⟨0, 0, 0⟩⟩ = Y at hone hbd
        obtain ⟨x, ⟨xa, xw⟩⟩ := X
        obtain ⟨R, at_, ⟨ya, yw⟩⟩ := Y
        by_cases hw : xw.e ≠ 0
        · rw [if_pos hw]
          exact ⟨fun c => absurd c hw, fun _ => rfl⟩
        · rw [if_neg hw]
          obtain ⟨e1, h1, h2, h3, h5⟩ := hone (Decidable.byContradiction hw)
          simp only at e1 h3 h5 hbd
          obtain ⟨rfl, e2⟩ := Prod.mk.inj e1
          apply rulesF_good chk L n
          constructor
          · intro R hR
            rcases List.mem_append.1 hR with hR | hR
            · exact h.all R hR
            · rw [List.mem_singleton.1 hR]
              exact ⟨hbd, h3⟩
          · have := h.len
            simp only [List.length_append, List.length_cons, List.length_nil]
            omega
          · rw [List.map_append, List.nodup_append]
            refine ⟨h.two, by simp, fun x hx y hy => ?_⟩
            obtain ⟨z, hz, rfl⟩ := List.mem_map.1 hx
            have hy' : y = x.i := by simpa using hy
            rw [hy']
            exact h5 z hz
    · rw [if_neg ha]
      exact ⟨fun _ => ⟨rfl, h⟩, fun c => absurd rfl c⟩
theorem rulesT_good (chk : Rp → Nat × Nat) (s : ByteArray) : ((rulesT chk s).2.e = 0 → (rulesT chk s).2 = ⟨0, 0, 0⟩ ∧ GoodR chk (rulesT chk s).1) ∧ ((rulesT chk s).2.e ≠ 0 → (rulesT chk s).1 = []) := by
  unfold rulesT
  by_cases h : (lexT s).2.e ≠ 0
  · rw [if_pos h]
    exact ⟨fun c => absurd c h, fun _ => rfl⟩
  · rw [if_neg h]
    exact rulesF_good chk _ _ [] 0 (good_nil chk)
/-- What is read is printed, and read as itself. -/
theorem rules_back {chk : Rp → Nat × Nat} (hc : ∀ R, BdRp R → (chk R).1 = 0 → OkRp R) {s : ByteArray} (h : (rulesT chk s).2.e = 0) : rulesT chk ⟨(rulesB (rulesT chk s).1).toArray⟩ = ((rulesT chk s).1, ⟨0, 0, 0⟩) := by
  have g := ((rulesT_good chk s).1 h).2
  exact rules_round chk _ (fun R hR => ⟨hc R (g.all R hR).1 (g.all R hR).2, (g.all R hR).2⟩) g.len g.two
/-- Commands likewise. -/
structure BdCm (C : Cm) : Prop where
  k : 1 ≤ C.k ∧ C.k ≤ 10
  n : C.n ≤ 4294967295
  i : C.i ≤ 4294967295
  n0 : C.k ≠ 1 → C.k ≠ 3 → C.n = 0
  i0 : C.k ≠ 2 → C.k ≠ 3 → C.i = 0
  r0 : C.k ≠ 1 → C.r = rp0
  h0 : C.k ≠ 4 → C.h = (0, 0, 0, 0, 0)
  r1 : BdRp C.r
  h1 : OkHd C.h
theorem bd_rp0 : BdRp rp0 := ⟨by decide, by decide, by decide, by decide, by decide, by decide, by decide⟩
theorem ok_h0 : OkHd (0, 0, 0, 0, 0) := ⟨by decide, by decide, by decide, by decide, by decide⟩
theorem head_bd (L : List Tk) (st : Rd) : OkHd (headS L st).1 := by
  unfold headS
  simp only
  exact ⟨addr_lt L _, addr_lt L _, num_le L 65535 _, num_le L 65535 _, num_le L 255 _⟩
theorem kind_le (w : List UInt8) : kindOf w ≤ 10 := by
  unfold kindOf
  (repeat' split) <;> decide
theorem cmd_bd {L : List Tk} {st : Rd} (h : (cmdS L st).2.2.w.e = 0) : BdCm (cmdS L st).1 := by
  have hk := kind_le (wordS L st).1
  unfold cmdS at h ⊢
  simp only at h ⊢
  generalize kindOf (wordS L st).1 = k at hk h ⊢
  by_cases e0 : k = 0
  · rw [if_pos e0] at h
    exact absurd h (wrong_e (by decide))
  · rw [if_neg e0] at h ⊢
    by_cases e1 : k = 1
    · rw [if_pos e1]
      exact ⟨(by show 1 ≤ 1 ∧ 1 ≤ 10; decide), num_le L 4294967295 _, Nat.zero_le _, fun c => absurd rfl c, fun _ _ => rfl, fun c => absurd rfl c, fun _ => rfl, rule_bd L _, ok_h0⟩
    · rw [if_neg e1]
      by_cases e2 : k = 2
      · rw [if_pos e2]
        exact ⟨(by show 1 ≤ 2 ∧ 2 ≤ 10; decide), Nat.zero_le _, num_le L 4294967295 _, fun _ _ => rfl, fun c => absurd rfl c, fun _ => rfl, fun _ => rfl, bd_rp0, ok_h0⟩
      · rw [if_neg e2]
        by_cases e3 : k = 3
        · rw [if_pos e3]
          exact ⟨(by show 1 ≤ 3 ∧ 3 ≤ 10; decide), num_le L 4294967295 _, num_le L 4294967295 _, fun _ c => absurd rfl c, fun _ c => absurd rfl c, fun _ => rfl, fun _ => rfl, bd_rp0, ok_h0⟩
        · rw [if_neg e3]
          by_cases e4 : k = 4
          · rw [if_pos e4]
            exact ⟨(by show 1 ≤ 4 ∧ 4 ≤ 10; decide), Nat.zero_le _, Nat.zero_le _, fun _ _ => rfl, fun _ _ => rfl, fun _ => rfl, fun c => absurd rfl c, bd_rp0, head_bd L _⟩
          · rw [if_neg e4]
            exact ⟨⟨by show 1 ≤ k; omega, hk⟩, Nat.zero_le _, Nat.zero_le _, fun _ _ => rfl, fun _ _ => rfl, fun _ => rfl, fun _ => rfl, bd_rp0, ok_h0⟩
theorem one_okC {chk : Rp → Nat × Nat} {L : List Tk} {n a : Nat} (h : (oneC chk L n a).2.w.e = 0) :
    oneC chk L n a = ((cmdS L ⟨a, ⟨0, 0, 0⟩⟩).1, (cmdS L ⟨a, ⟨0, 0, 0⟩⟩).2.2) ∧ (cmdS L ⟨a, ⟨0, 0, 0⟩⟩).2.2.w.e = 0 ∧ (tkA L (cmdS L ⟨a, ⟨0, 0, 0⟩⟩).2.2.a).k = 4 ∧ n ≠ 1000 ∧ ((cmdS L ⟨a, ⟨0, 0, 0⟩⟩).1.k = 1 → (chk (cmdS L ⟨a, ⟨0, 0, 0⟩⟩).1.r).1 = 0) := by
  unfold oneC at h ⊢
  simp only at h
  by_cases hk : (cmdS L ⟨a, ⟨0, 0, 0⟩⟩).1.k = 1
  · rw [if_pos hk] at h ⊢
    obtain ⟨e2, h2⟩ := fld_ok h
    rw [e2] at h ⊢
    obtain ⟨e3, h3⟩ := many_ok h
    rw [e3] at h ⊢
    obtain ⟨e4, h4⟩ := end_ok h
    rw [e4] at h ⊢
    exact ⟨rfl, h, h4, h3, fun _ => h2⟩
  · rw [if_neg hk] at h ⊢
    obtain ⟨e3, h3⟩ := many_ok h
    rw [e3] at h ⊢
    obtain ⟨e4, h4⟩ := end_ok h
    rw [e4] at h ⊢
    exact ⟨rfl, h, h4, h3, fun c => absurd c hk⟩
structure GoodC (chk : Rp → Nat × Nat) (l : List Cm) : Prop where
  all : ∀ C ∈ l, BdCm C ∧ (C.k = 1 → (chk C.r).1 = 0)
  len : l.length ≤ 1000
theorem good_nilC (chk : Rp → Nat × Nat) : GoodC chk [] := ⟨fun R h => (by cases h), (by decide)⟩
theorem scrF_is (chk : Rp → Nat × Nat) (L : List Tk) (n : Nat) (out : List Cm) (a : Nat) : scrF chk L (n + 1) out a = if a < L.length then (if (tkA L a).k = 4 then scrF chk L n out (a + 1) else if (oneC chk L out.length a).2.w.e ≠ 0 then ([], (oneC chk L out.length a).2.w) else scrF chk L n (out ++ [(oneC chk L out.length a).1]) ((oneC chk L out.length a).2.a + 1)) else (out, ⟨0, 0, 0⟩) := rfl
theorem scrF_good (chk : Rp → Nat × Nat) (L : List Tk) : ∀ (n : Nat) (out : List Cm) (a : Nat), GoodC chk out → ((scrF chk L n out a).2.e = 0 → (scrF chk L n out a).2 = ⟨0, 0, 0⟩ ∧ GoodC chk (scrF chk L n out a).1) ∧ ((scrF chk L n out a).2.e ≠ 0 → (scrF chk L n out a).1 = [])
  | 0, out, a, h => ⟨fun _ => ⟨rfl, h⟩, fun c => absurd rfl c⟩
  | n + 1, out, a, h => by
    rw [scrF_is]
    by_cases ha : a < L.length
    · rw [if_pos ha]
      by_cases h4 : (tkA L a).k = 4
      · rw [if_pos h4]
        exact scrF_good chk L n out (a + 1) h
      · rw [if_neg h4]
        have hone := @one_okC chk L out.length a
        generalize oneC chk L out.length a = X at hone ⊢
        have hbd := @cmd_bd L ⟨a, ⟨0, 0, 0⟩⟩
        generalize cmdS L ⟨a, ⟨0, 0, 0⟩⟩ = Y at hone hbd
        obtain ⟨x, ⟨xa, xw⟩⟩ := X
        obtain ⟨C, at_, ⟨ya, yw⟩⟩ := Y
        by_cases hw : xw.e ≠ 0
        · rw [if_pos hw]
          exact ⟨fun c => absurd c hw, fun _ => rfl⟩
        · rw [if_neg hw]
          obtain ⟨e1, h0, h1, h2, h3⟩ := hone (Decidable.byContradiction hw)
          simp only at e1 h0 h3 hbd
          obtain ⟨rfl, e2⟩ := Prod.mk.inj e1
          apply scrF_good chk L n
          constructor
          · intro C hC
            rcases List.mem_append.1 hC with hC | hC
            · exact h.all C hC
            · rw [List.mem_singleton.1 hC]
              exact ⟨hbd h0, h3⟩
          · have := h.len
            simp only [List.length_append, List.length_cons, List.length_nil]
            omega
    · rw [if_neg ha]
      exact ⟨fun _ => ⟨rfl, h⟩, fun c => absurd rfl c⟩
theorem scrT_good (chk : Rp → Nat × Nat) (s : ByteArray) : ((scrT chk s).2.e = 0 → (scrT chk s).2 = ⟨0, 0, 0⟩ ∧ GoodC chk (scrT chk s).1) ∧ ((scrT chk s).2.e ≠ 0 → (scrT chk s).1 = []) := by
  unfold scrT
  by_cases h : (lexT s).2.e ≠ 0
  · rw [if_pos h]
    exact ⟨fun c => absurd c h, fun _ => rfl⟩
  · rw [if_neg h]
    exact scrF_good chk _ _ [] 0 (good_nilC chk)
theorem BdCm.ok {chk : Rp → Nat × Nat} (hc : ∀ R, BdRp R → (chk R).1 = 0 → OkRp R) {C : Cm} (h : BdCm C) (h1 : C.k = 1 → (chk C.r).1 = 0) : OkCm C := ⟨h.k, h.n, h.i, h.n0, h.i0, h.r0, h.h0, fun e => hc _ h.r1 (h1 e), h.h1⟩
theorem scr_back {chk : Rp → Nat × Nat} (hc : ∀ R, BdRp R → (chk R).1 = 0 → OkRp R) {s : ByteArray} (h : (scrT chk s).2.e = 0) (hs : (scrB (scrT chk s).1).length ≤ 65536) : scrT chk ⟨(scrB (scrT chk s).1).toArray⟩ = ((scrT chk s).1, ⟨0, 0, 0⟩) := by
  have g := ((scrT_good chk s).1 h).2
  exact scr_round chk _ (fun C hC => ⟨(g.all C hC).1.ok hc (g.all C hC).2, (g.all C hC).2⟩) g.len hs
theorem scr_long {chk : Rp → Nat × Nat} (hc : ∀ R, BdRp R → (chk R).1 = 0 → OkRp R) {l : List Cm} (g : GoodC chk l) (hs : 65536 < (scrB l).length) : 200 < l.length := by
  have := scrB_len l (fun C hC => (g.all C hC).1.ok hc (g.all C hC).2)
  omega
end Go.Proofs.YtehedlgdencboabGreatDoor
