/-
  Stage 10 ahead: the beginning of a text that is read, up to a line's end, is read as the beginning of what that is read as. No program is named here.
-/
import Derived.Test.YtehedlgdencboabGreatDoorSyPlH
namespace Go.Proofs.YtehedlgdencboabGreatDoor
set_option linter.unusedVariables false
set_option linter.unusedSimpArgs false

/-- Two rows of tokens that are the same up to a line's end. -/
structure Ag (L M : List Tk) (e : Nat) : Prop where
  same : ∀ i, i ≤ e → tkA L i = tkA M i
  four : (tkA L e).k = 4
theorem Ag.not {L M : List Tk} {e a k : Nat} (h : Ag L M e) (ha : a ≤ e) (hk : (tkA L a).k = k) (h4 : k ≠ 4) : a + 1 ≤ e := by
  rcases Nat.lt_or_ge a e with c | c
  · exact c
  · have : a = e := Nat.le_antisymm ha c
    rw [this, h.four] at hk
    exact absurd hk.symm h4
theorem wrong_ag {L M : List Tk} {e x i : Nat} {st : Rd} (h : Ag L M e) (hi : i ≤ e) : wrongS L x i st = wrongS M x i st := by
  unfold wrongS
  rw [h.same i hi]
theorem wrong_a (L : List Tk) (x i : Nat) (st : Rd) : (wrongS L x i st).a = st.a := by
  unfold wrongS
  split <;> rfl
theorem sign_ag {L M : List Tk} {e c : Nat} {st : Rd} (h : Ag L M e) (ha : st.a ≤ e) : signS L c st = signS M c st ∧ (signS L c st).2.a ≤ e := by
  constructor
  · unfold signS
    rw [h.same _ ha]
  · unfold signS
    by_cases hc : st.w.e = 0 ∧ (tkA L st.a).k = 3 ∧ (tkA L st.a).t.data.toList = [UInt8.ofNat c]
    · rw [if_pos hc]
      exact h.not ha hc.2.1 (by decide)
    · rw [if_neg hc]
      exact ha
theorem num_ag {L M : List Tk} {e most : Nat} {st : Rd} (h : Ag L M e) (ha : st.a ≤ e) : numS L most st = numS M most st ∧ (numS L most st).2.a ≤ e := by
  constructor
  · unfold numS
    rw [h.same _ ha, wrong_ag h ha, wrong_ag h ha]
  · unfold numS
    by_cases hc : st.w.e ≠ 0 ∨ (tkA L st.a).k ≠ 2
    · rw [if_pos hc]
      show (wrongS L 100 st.a st).a ≤ e
      rw [wrong_a]
      exact ha
    · rw [if_neg hc]
      by_cases hm : most < (tkA L st.a).v
      · rw [if_pos hm]
        show (wrongS L 101 st.a st).a ≤ e
        rw [wrong_a]
        exact ha
      · rw [if_neg hm]
        exact h.not ha (Decidable.byContradiction fun c => hc (Or.inr c)) (by decide)
theorem word_ag {L M : List Tk} {e : Nat} {st : Rd} (h : Ag L M e) (ha : st.a ≤ e) : wordS L st = wordS M st ∧ (wordS L st).2.a ≤ e := by
  constructor
  · unfold wordS
    rw [h.same _ ha]
  · unfold wordS
    by_cases hc : st.w.e ≠ 0 ∨ (tkA L st.a).k ≠ 1
    · rw [if_pos hc]
      exact ha
    · rw [if_neg hc]
      exact h.not ha (Decidable.byContradiction fun c => hc (Or.inr c)) (by decide)
theorem dots_is (L : List Tk) (n x : Nat) (st : Rd) : dotsS L (n + 1) x st = if (signS L 46 st).1 then dotsS L n (256 * x + (numS L 255 (signS L 46 st).2).1) (numS L 255 (signS L 46 st).2).2 else (0, wrongS L 100 (signS L 46 st).2.a (signS L 46 st).2) := rfl
theorem dots_ag {L M : List Tk} {e : Nat} (h : Ag L M e) : ∀ (n x : Nat) (st : Rd), st.a ≤ e → dotsS L n x st = dotsS M n x st ∧ (dotsS L n x st).2.a ≤ e
  | 0, x, st, ha => ⟨rfl, ha⟩
  | n + 1, x, st, ha => by
    rw [dots_is, dots_is]
    obtain ⟨e1, h1⟩ := sign_ag (c := 46) h ha
    rw [← e1]
    generalize signS L 46 st = S at h1 ⊢
    obtain ⟨b, st1⟩ := S
    obtain ⟨e2, h2⟩ := num_ag (most := 255) h h1
    cases b with
    | true =>
      show dotsS L n (256 * x + (numS L 255 st1).1) (numS L 255 st1).2 = dotsS M n (256 * x + (numS M 255 st1).1) (numS M 255 st1).2 ∧ (dotsS L n (256 * x + (numS L 255 st1).1) (numS L 255 st1).2).2.a ≤ e
      rw [← e2]
      exact dots_ag h n _ _ h2
    | false =>
      show ((0, wrongS L 100 st1.a st1) : Nat × Rd) = (0, wrongS M 100 st1.a st1) ∧ (wrongS L 100 st1.a st1).a ≤ e
      rw [wrong_ag h h1, wrong_a]
      exact ⟨rfl, h1⟩
theorem addr_ag {L M : List Tk} {e : Nat} {st : Rd} (h : Ag L M e) (ha : st.a ≤ e) : addrS L st = addrS M st ∧ (addrS L st).2.a ≤ e := by
  unfold addrS
  obtain ⟨e1, h1⟩ := num_ag (most := 255) h ha
  rw [← e1]
  exact dots_ag h 3 _ _ h1
theorem pair_ag {L M : List Tk} {e c most x : Nat} {one : Nat → Nat} {st : Rd} (h : Ag L M e) (ha : st.a ≤ e) : pairS L c most one x st = pairS M c most one x st ∧ (pairS L c most one x st).2.a ≤ e := by
  unfold pairS
  obtain ⟨e1, h1⟩ := sign_ag (c := c) h ha
  rw [← e1]
  generalize signS L c st = S at h1 ⊢
  obtain ⟨b, st1⟩ := S
  obtain ⟨e2, h2⟩ := num_ag (most := most) h h1
  rw [← e2]
  cases b with
  | true => exact ⟨rfl, h2⟩
  | false => exact ⟨rfl, h1⟩
theorem pref_ag {L M : List Tk} {e : Nat} {st : Rd} (h : Ag L M e) (ha : st.a ≤ e) : prefS L st = prefS M st ∧ (prefS L st).2.a ≤ e := by
  unfold prefS
  obtain ⟨e1, h1⟩ := sign_ag (c := 42) h ha
  rw [← e1]
  generalize signS L 42 st = S at h1 ⊢
  obtain ⟨b, st1⟩ := S
  obtain ⟨e2, h2⟩ := addr_ag h h1
  rw [← e2]
  generalize addrS L st1 = T at h2 ⊢
  obtain ⟨x, st2⟩ := T
  obtain ⟨e3, h3⟩ := pair_ag (c := 47) (most := 32) (x := x) (one := fun _ => 32) h h2
  cases b with
  | true => exact ⟨rfl, h1⟩
  | false => exact ⟨e3, h3⟩
theorem span_ag {L M : List Tk} {e : Nat} {st : Rd} (h : Ag L M e) (ha : st.a ≤ e) : spanS L st = spanS M st ∧ (spanS L st).2.a ≤ e := by
  unfold spanS
  obtain ⟨e1, h1⟩ := sign_ag (c := 42) h ha
  rw [← e1]
  generalize signS L 42 st = S at h1 ⊢
  obtain ⟨b, st1⟩ := S
  obtain ⟨e2, h2⟩ := num_ag (most := 65535) h h1
  rw [← e2]
  generalize numS L 65535 st1 = T at h2 ⊢
  obtain ⟨x, st2⟩ := T
  obtain ⟨e3, h3⟩ := pair_ag (c := 58) (most := 65535) (x := x) (one := fun x => x) h h2
  cases b with
  | true => exact ⟨rfl, h1⟩
  | false => exact ⟨e3, h3⟩
theorem mask_ag {L M : List Tk} {e : Nat} {st : Rd} (h : Ag L M e) (ha : st.a ≤ e) : maskS L st = maskS M st ∧ (maskS L st).2.a ≤ e := by
  unfold maskS
  obtain ⟨e1, h1⟩ := sign_ag (c := 42) h ha
  rw [← e1]
  generalize signS L 42 st = S at h1 ⊢
  obtain ⟨b, st1⟩ := S
  obtain ⟨e2, h2⟩ := num_ag (most := 255) h h1
  rw [← e2]
  generalize numS L 255 st1 = T at h2 ⊢
  obtain ⟨x, st2⟩ := T
  obtain ⟨e3, h3⟩ := pair_ag (c := 47) (most := 255) (x := x) (one := fun _ => 255) h h2
  cases b with
  | true => exact ⟨rfl, h1⟩
  | false => exact ⟨e3, h3⟩
theorem rule_ag {L M : List Tk} {e : Nat} {st : Rd} (h : Ag L M e) (ha : st.a ≤ e) : ruleS L st = ruleS M st ∧ (ruleS L st).2.2.a ≤ e ∧ ∀ i ∈ (ruleS L st).2.1, i ≤ e := by
  unfold ruleS
  simp only
  obtain ⟨e1, h1⟩ := num_ag (most := 4294967295) h ha
  rw [← e1]
  generalize numS L 4294967295 st = S1 at h1 ⊢
  obtain ⟨e2, h2⟩ := word_ag h h1
  rw [← e2]
  generalize wordS L S1.2 = S2 at h2 ⊢
  have e3 : (if actOf S2.1 = 0 then wrongS M 100 S1.2.a S2.2 else S2.2) = (if actOf S2.1 = 0 then wrongS L 100 S1.2.a S2.2 else S2.2) := by rw [wrong_ag h h1]
  have h3 : (if actOf S2.1 = 0 then wrongS L 100 S1.2.a S2.2 else S2.2).a ≤ e := by
    split
    · rw [wrong_a]; exact h2
    · exact h2
  rw [e3]
  generalize (if actOf S2.1 = 0 then wrongS L 100 S1.2.a S2.2 else S2.2) = S3 at h3 ⊢
  obtain ⟨e4, h4⟩ := pref_ag h h3
  rw [← e4]
  generalize prefS L S3 = S4 at h4 ⊢
  obtain ⟨e5, h5⟩ := pref_ag h h4
  rw [← e5]
  generalize prefS L S4.2 = S5 at h5 ⊢
  obtain ⟨e6, h6⟩ := span_ag h h5
  rw [← e6]
  generalize spanS L S5.2 = S6 at h6 ⊢
  obtain ⟨e7, h7⟩ := span_ag h h6
  rw [← e7]
  generalize spanS L S6.2 = S7 at h7 ⊢
  obtain ⟨e8, h8⟩ := mask_ag h h7
  rw [← e8]
  refine ⟨rfl, h8, fun i hi => ?_⟩
  simp only [List.mem_cons, List.not_mem_nil, or_false] at hi
  rcases hi with rfl | rfl | rfl | rfl | rfl | rfl | rfl
  · exact Nat.zero_le _
  · exact ha
  · exact h3
  · exact h4
  · exact h5
  · exact h6
  · exact h7
theorem head_ag {L M : List Tk} {e : Nat} {st : Rd} (h : Ag L M e) (ha : st.a ≤ e) : headS L st = headS M st ∧ (headS L st).2.a ≤ e := by
  unfold headS
  simp only
  obtain ⟨e1, h1⟩ := addr_ag h ha
  rw [← e1]
  generalize addrS L st = S1 at h1 ⊢
  obtain ⟨e2, h2⟩ := addr_ag h h1
  rw [← e2]
  generalize addrS L S1.2 = S2 at h2 ⊢
  obtain ⟨e3, h3⟩ := num_ag (most := 65535) h h2
  rw [← e3]
  generalize numS L 65535 S2.2 = S3 at h3 ⊢
  obtain ⟨e4, h4⟩ := num_ag (most := 65535) h h3
  rw [← e4]
  generalize numS L 65535 S3.2 = S4 at h4 ⊢
  obtain ⟨e5, h5⟩ := num_ag (most := 255) h h4
  rw [← e5]
  exact ⟨rfl, h5⟩
theorem cmd_ag {L M : List Tk} {e : Nat} {st : Rd} (h : Ag L M e) (ha : st.a ≤ e) : cmdS L st = cmdS M st ∧ (cmdS L st).2.2.a ≤ e ∧ ∀ i ∈ (cmdS L st).2.1, i ≤ e := by
  unfold cmdS
  simp only
  obtain ⟨e1, h1⟩ := word_ag h ha
  rw [← e1]
  generalize wordS L st = S1 at h1 ⊢
  obtain ⟨e2, h2⟩ := num_ag (most := 4294967295) h h1
  rw [← e2]
  generalize numS L 4294967295 S1.2 = S2 at h2 ⊢
  obtain ⟨e3, h3, g3⟩ := rule_ag h h2
  rw [← e3]
  generalize ruleS L S2.2 = S3 at h3 g3 ⊢
  obtain ⟨e4, h4⟩ := num_ag (most := 4294967295) h h2
  rw [← e4]
  generalize numS L 4294967295 S2.2 = S4 at h4 ⊢
  obtain ⟨e5, h5⟩ := head_ag h h1
  rw [← e5]
  generalize headS L S1.2 = S5 at h5 ⊢
  rw [← wrong_ag h ha]
  refine ⟨rfl, ?_⟩
  have hnil : ∀ i ∈ ([] : List Nat), i ≤ e := fun i hi => by cases hi
  generalize kindOf S1.1 = k
  by_cases c0 : k = 0
  · rw [if_pos c0]
    exact ⟨by show (wrongS L 100 st.a S1.2).a ≤ e; rw [wrong_a]; exact h1, hnil⟩
  · rw [if_neg c0]
    by_cases c1 : k = 1
    · rw [if_pos c1]; exact ⟨h3, g3⟩
    · rw [if_neg c1]
      by_cases c2 : k = 2
      · rw [if_pos c2]; exact ⟨h2, hnil⟩
      · rw [if_neg c2]
        by_cases c3 : k = 3
        · rw [if_pos c3]; exact ⟨h4, hnil⟩
        · rw [if_neg c3]
          by_cases c4 : k = 4
          · rw [if_pos c4]; exact ⟨h5, hnil⟩
          · rw [if_neg c4]; exact ⟨h1, hnil⟩
theorem end_ag {L M : List Tk} {e : Nat} {st : Rd} (h : Ag L M e) (ha : st.a ≤ e) : endS L st = endS M st ∧ (endS L st).a ≤ e := by
  constructor
  · unfold endS
    rw [h.same _ ha, wrong_ag h ha]
  · unfold endS
    split
    · rw [wrong_a]; exact ha
    · exact ha
theorem many_ag {L M : List Tk} {e most n f : Nat} {st : Rd} (h : Ag L M e) (ha : st.a ≤ e) (hf : f ≤ e) : manyS L most n f st = manyS M most n f st ∧ (manyS L most n f st).a ≤ e := by
  constructor
  · unfold manyS
    rw [wrong_ag h hf]
  · unfold manyS
    split
    · rw [wrong_a]; exact ha
    · exact ha
theorem getD_le {e : Nat} : ∀ (l : List Nat) (k : Nat), (∀ i ∈ l, i ≤ e) → l.getD k 0 ≤ e := fun l k h => by
  rw [List.getD_eq_getElem?_getD]
  cases hk : l[k]? with
  | none => exact Nat.zero_le _
  | some x => exact h x (List.mem_of_getElem? hk)
theorem chk_ag {L M : List Tk} {e : Nat} {x : Nat × Nat} {at_ : List Nat} {st : Rd} (h : Ag L M e) (ha : st.a ≤ e) (hat : ∀ i ∈ at_, i ≤ e) : fldS L x at_ st = fldS M x at_ st ∧ (fldS L x at_ st).a ≤ e := by
  constructor
  · unfold fldS
    rw [wrong_ag h (getD_le _ _ hat)]
  · unfold fldS
    split
    · rw [wrong_a]; exact ha
    · exact ha
theorem twice_ag {L M : List Tk} {e f : Nat} {b : Bool} {st : Rd} (h : Ag L M e) (ha : st.a ≤ e) (hf : f ≤ e) : twiceS L b f st = twiceS M b f st ∧ (twiceS L b f st).a ≤ e := by
  constructor
  · unfold twiceS
    rw [wrong_ag h hf]
  · unfold twiceS
    split
    · rw [wrong_a]; exact ha
    · exact ha
theorem one_ag {chk : Rp → Nat × Nat} {L M : List Tk} {e a : Nat} {out : List Rp} (h : Ag L M e) (ha : a ≤ e) : oneS chk L out a = oneS chk M out a ∧ (oneS chk L out a).2.a ≤ e := by
  unfold oneS
  obtain ⟨e1, h1, g1⟩ := rule_ag (st := ⟨a, ⟨0, 0, 0⟩⟩) h ha
  rw [← e1]
  generalize ruleS L ⟨a, ⟨0, 0, 0⟩⟩ = S at h1 g1 ⊢
  obtain ⟨e2, h2⟩ := end_ag h h1
  rw [← e2]
  obtain ⟨e3, h3⟩ := many_ag (most := 64) (n := out.length) h h2 ha
  rw [← e3]
  obtain ⟨e4, h4⟩ := chk_ag (x := chk S.1) h h3 g1
  rw [← e4]
  obtain ⟨e5, h5⟩ := twice_ag (b := out.any fun y => decide (y.i = S.1.i)) h h4 ha
  rw [← e5]
  exact ⟨rfl, h5⟩
theorem one_agC {chk : Rp → Nat × Nat} {L M : List Tk} {e a n : Nat} (h : Ag L M e) (ha : a ≤ e) : oneC chk L n a = oneC chk M n a ∧ (oneC chk L n a).2.a ≤ e := by
  unfold oneC
  obtain ⟨e1, h1, g1⟩ := cmd_ag (st := ⟨a, ⟨0, 0, 0⟩⟩) h ha
  rw [← e1]
  generalize cmdS L ⟨a, ⟨0, 0, 0⟩⟩ = S at h1 g1 ⊢
  obtain ⟨e2, h2⟩ := end_ag h h1
  rw [← e2]
  obtain ⟨e3, h3⟩ := many_ag (most := 1000) (n := n) h h2 ha
  rw [← e3]
  obtain ⟨e4, h4⟩ := chk_ag (x := chk S.1.r) h h3 g1
  rw [← e4]
  refine ⟨rfl, ?_⟩
  by_cases c : S.1.k = 1
  · rw [if_pos c]; exact h4
  · rw [if_neg c]; exact h3
theorem rulesF_out (chk : Rp → Nat × Nat) (L : List Tk) : ∀ (n : Nat) (out : List Rp) (a : Nat), (rulesF chk L n out a).2.e = 0 → out <+: (rulesF chk L n out a).1
  | 0, out, a, h => List.prefix_refl _
  | n + 1, out, a, h => by
    rw [rulesF_is] at h ⊢
    by_cases ha : a < L.length
    · rw [if_pos ha] at h ⊢
      by_cases h4 : (tkA L a).k = 4
      · rw [if_pos h4] at h ⊢
        exact rulesF_out chk L n out (a + 1) h
      · rw [if_neg h4] at h ⊢
        generalize oneS chk L out a = X at h ⊢
        by_cases hw : X.2.w.e ≠ 0
        · rw [if_pos hw] at h
          exact absurd h hw
        · rw [if_neg hw] at h ⊢
          exact (List.prefix_append out [X.1]).trans (rulesF_out chk L n _ _ h)
    · rw [if_neg ha]
      exact List.prefix_refl _
theorem scrF_out (chk : Rp → Nat × Nat) (L : List Tk) : ∀ (n : Nat) (out : List Cm) (a : Nat), (scrF chk L n out a).2.e = 0 → out <+: (scrF chk L n out a).1
  | 0, out, a, h => List.prefix_refl _
  | n + 1, out, a, h => by
    rw [scrF_is] at h ⊢
    by_cases ha : a < L.length
    · rw [if_pos ha] at h ⊢
      by_cases h4 : (tkA L a).k = 4
      · rw [if_pos h4] at h ⊢
        exact scrF_out chk L n out (a + 1) h
      · rw [if_neg h4] at h ⊢
        generalize oneC chk L out.length a = X at h ⊢
        by_cases hw : X.2.w.e ≠ 0
        · rw [if_pos hw] at h
          exact absurd h hw
        · rw [if_neg hw] at h ⊢
          exact (List.prefix_append out [X.1]).trans (scrF_out chk L n _ _ h)
    · rw [if_neg ha]
      exact List.prefix_refl _
theorem rulesF_heads (chk : Rp → Nat × Nat) {L M : List Tk} {e : Nat} (h : Ag L M e) (hM : M.length = e + 1) (hL : e + 1 ≤ L.length) : ∀ (m n : Nat) (out : List Rp) (a : Nat), m ≤ n → a ≤ e + 1 → (rulesF chk L n out a).2.e = 0 → (rulesF chk M m out a).2.e = 0 ∧ (rulesF chk M m out a).1 <+: (rulesF chk L n out a).1
  | 0, n, out, a, hm, ha, hw => ⟨rfl, rulesF_out chk L n out a hw⟩
  | m + 1, 0, out, a, hm, ha, hw => absurd hm (by omega)
  | m + 1, n + 1, out, a, hm, ha, hw => by
    by_cases c : a = e + 1
    · have e0 : rulesF chk M (m + 1) out a = (out, ⟨0, 0, 0⟩) := by rw [rulesF_is, if_neg (by omega)]
      rw [e0]
      exact ⟨rfl, rulesF_out chk L (n + 1) out a hw⟩
    · have hae : a ≤ e := by omega
      rw [rulesF_is] at hw
      rw [rulesF_is chk M, rulesF_is chk L]
      rw [if_pos (show a < L.length by omega)] at hw ⊢
      rw [if_pos (show a < M.length by omega)]
      obtain ⟨e1, h1⟩ := one_ag (chk := chk) (out := out) h hae
      rw [← e1, ← h.same a hae]
      generalize oneS chk L out a = X at h1 hw ⊢
      by_cases h4 : (tkA L a).k = 4
      · rw [if_pos h4] at hw ⊢
        rw [if_pos h4]
        exact rulesF_heads chk h hM hL m n out (a + 1) (by omega) (by omega) hw
      · rw [if_neg h4] at hw ⊢
        rw [if_neg h4]
        by_cases hx : X.2.w.e ≠ 0
        · rw [if_pos hx] at hw
          exact absurd hw hx
        · rw [if_neg hx] at hw ⊢
          rw [if_neg hx]
          exact rulesF_heads chk h hM hL m n _ _ (by omega) (by omega) hw
theorem scrF_heads (chk : Rp → Nat × Nat) {L M : List Tk} {e : Nat} (h : Ag L M e) (hM : M.length = e + 1) (hL : e + 1 ≤ L.length) : ∀ (m n : Nat) (out : List Cm) (a : Nat), m ≤ n → a ≤ e + 1 → (scrF chk L n out a).2.e = 0 → (scrF chk M m out a).2.e = 0 ∧ (scrF chk M m out a).1 <+: (scrF chk L n out a).1
  | 0, n, out, a, hm, ha, hw => ⟨rfl, scrF_out chk L n out a hw⟩
  | m + 1, 0, out, a, hm, ha, hw => absurd hm (by omega)
  | m + 1, n + 1, out, a, hm, ha, hw => by
    by_cases c : a = e + 1
    · have e0 : scrF chk M (m + 1) out a = (out, ⟨0, 0, 0⟩) := by rw [scrF_is, if_neg (by omega)]
      rw [e0]
      exact ⟨rfl, scrF_out chk L (n + 1) out a hw⟩
    · have hae : a ≤ e := by omega
      rw [scrF_is] at hw
      rw [scrF_is chk M, scrF_is chk L]
      rw [if_pos (show a < L.length by omega)] at hw ⊢
      rw [if_pos (show a < M.length by omega)]
      obtain ⟨e1, h1⟩ := one_agC (chk := chk) (n := out.length) h hae
      rw [← e1, ← h.same a hae]
      generalize oneC chk L out.length a = X at h1 hw ⊢
      by_cases h4 : (tkA L a).k = 4
      · rw [if_pos h4] at hw ⊢
        rw [if_pos h4]
        exact scrF_heads chk h hM hL m n out (a + 1) (by omega) (by omega) hw
      · rw [if_neg h4] at hw ⊢
        rw [if_neg h4]
        by_cases hx : X.2.w.e ≠ 0
        · rw [if_pos hx] at hw
          exact absurd hw hx
        · rw [if_neg hx] at hw ⊢
          rw [if_neg hx]
          exact scrF_heads chk h hM hL m n _ _ (by omega) (by omega) hw
/-- The last token of a text that has no fault is a line's end. -/
theorem all_last (s : ByteArray) : ∀ (n i no : Nat), s.size - i ≤ n → i < s.size → (allT s no i).2.e = 0 → ∃ T t, (allT s no i).1 = T ++ [t] ∧ t.k = 4
  | 0, i, no, hn, hi, he => absurd hn (by omega)
  | n + 1, i, no, hn, hi, he => by
    by_cases hl : (lineA (s.extract i (endOf s i)) no).2.e = 0
    · rw [allT_line hi hl] at he ⊢
      have hg := endOf_ge s i
      by_cases hr : endOf s i + 1 < s.size
      · obtain ⟨T, t, e1, e2⟩ := all_last s n (endOf s i + 1) (no + 1) (by omega) hr he
        refine ⟨(lineA (s.extract i (endOf s i)) no).1 ++ endT s no i :: T, t, ?_, e2⟩
        show _ ++ endT s no i :: (allT s (no + 1) (endOf s i + 1)).1 = _
        rw [e1]
        simp
      · refine ⟨(lineA (s.extract i (endOf s i)) no).1, endT s no i, ?_, rfl⟩
        show _ ++ endT s no i :: (allT s (no + 1) (endOf s i + 1)).1 = _
        rw [allT_end hr]
    · rw [allT_bad hi hl] at he
      exact absurd he hl
theorem cut_is (s : ByteArray) (cut : Nat) (h : cut ≤ s.size) : s = s.extract 0 cut ++ s.extract cut s.size := by
  apply ByteArray.ext
  apply Array.toList_inj.1
  rw [ByteArray.data_append, Array.toList_append, ex_list, ex_list]
  have hz : s.data.toList.length = s.size := size_len s
  rw [List.drop_zero, Nat.sub_zero, List.take_of_length_le (l := List.drop cut s.data.toList) (by rw [List.length_drop, hz]; exact Nat.le_refl _), List.take_append_drop]
/-- The tokens of a text's beginning. -/
theorem lex_cut (s : ByteArray) (cut : Nat) (h : cut ≤ s.size) (h0 : 0 < cut) (h10 : bt s (cut - 1) = 10) (he : (lexT s).2.e = 0) : ∃ e, (lexT (s.extract 0 cut)).2.e = 0 ∧ (lexT (s.extract 0 cut)).1.length = e + 1 ∧ e + 1 ≤ (lexT s).1.length ∧ Ag (lexT s).1 (lexT (s.extract 0 cut)).1 e := by
  have hz : ¬ 65536 < s.size := by
    intro c
    unfold lexT at he
    rw [if_pos c] at he
    cases he
  have hx : (s.extract 0 cut).size = cut := by rw [ex_size s 0 cut (Nat.zero_le _) h]; rfl
  have ex : lexT (s.extract 0 cut) = allT (s.extract 0 cut) 1 0 := by unfold lexT; rw [if_neg (by omega)]
  have es : lexT s = allT (s.extract 0 cut ++ s.extract cut s.size) 1 0 := by rw [← cut_is s cut h]; unfold lexT; rw [if_neg hz]
  have hl : bt (s.extract 0 cut) ((s.extract 0 cut).size - 1) = 10 := by rw [hx, bt_ex s 0 cut (cut - 1) (by omega) h, Nat.zero_add]; exact h10
  have hok : (allT (s.extract 0 cut) 1 0).2.e = 0 := by
    apply Decidable.byContradiction
    intro c
    rw [es, join_bad _ _ (by omega) hl c] at he
    exact c he
  obtain ⟨T, t, e1, e2⟩ := all_last (s.extract 0 cut) _ 0 1 (Nat.le_refl _) (by omega) hok
  rw [es, ex, join_ok _ _ (by omega) hl hok]
  refine ⟨T.length, hok, by rw [e1]; simp, by simp [e1], ?_⟩
  constructor
  · intro i hi
    unfold tkA
    rw [List.getD_eq_getElem?_getD, List.getD_eq_getElem?_getD, List.getElem?_append_left (by rw [e1, List.length_append]; show i < T.length + 1; omega)]
  · unfold tkA
    rw [List.getD_eq_getElem?_getD, List.getElem?_append_left (by rw [e1, List.length_append]; show T.length < T.length + 1; omega), e1, List.getElem?_append_right (Nat.le_refl _), Nat.sub_self]
    exact e2
theorem lexT_nil {s : ByteArray} (h : s.size = 0) : lexT s = ([], ⟨0, 0, 0⟩) := by
  unfold lexT
  rw [if_neg (by omega), allT_end (by omega)]
/-- The beginning of a text that is read. -/
theorem rules_heads (chk : Rp → Nat × Nat) (s : ByteArray) (cut : Nat) (h : cut ≤ s.size) (h10 : cut = 0 ∨ bt s (cut - 1) = 10) (he : (rulesT chk s).2.e = 0) : (rulesT chk (s.extract 0 cut)).2.e = 0 ∧ (rulesT chk (s.extract 0 cut)).1 <+: (rulesT chk s).1 := by
  by_cases h0 : cut = 0
  · have hx : (s.extract 0 cut).size = 0 := by rw [ex_size s 0 cut (Nat.zero_le _) h, h0]
    have : rulesT chk (s.extract 0 cut) = ([], ⟨0, 0, 0⟩) := by
      unfold rulesT
      rw [lexT_nil hx]
      rfl
    rw [this]
    exact ⟨rfl, List.nil_prefix⟩
  · have hl : (lexT s).2.e = 0 := by
      apply Decidable.byContradiction
      intro c
      unfold rulesT at he
      rw [if_pos c] at he
      exact c he
    obtain ⟨e, h1, h2, h3, h4⟩ := lex_cut s cut h (by omega) (by omega) hl
    unfold rulesT at he ⊢
    rw [if_neg (fun c => c hl)] at he
    rw [if_neg (fun c => c h1), if_neg (fun c => c hl)]
    exact rulesF_heads chk h4 h2 h3 _ _ [] 0 (by omega) (by omega) he
theorem scr_heads (chk : Rp → Nat × Nat) (s : ByteArray) (cut : Nat) (h : cut ≤ s.size) (h10 : cut = 0 ∨ bt s (cut - 1) = 10) (he : (scrT chk s).2.e = 0) : (scrT chk (s.extract 0 cut)).2.e = 0 ∧ (scrT chk (s.extract 0 cut)).1 <+: (scrT chk s).1 := by
  by_cases h0 : cut = 0
  · have hx : (s.extract 0 cut).size = 0 := by rw [ex_size s 0 cut (Nat.zero_le _) h, h0]
    have : scrT chk (s.extract 0 cut) = ([], ⟨0, 0, 0⟩) := by
      unfold scrT
      rw [lexT_nil hx]
      rfl
    rw [this]
    exact ⟨rfl, List.nil_prefix⟩
  · have hl : (lexT s).2.e = 0 := by
      apply Decidable.byContradiction
      intro c
      unfold scrT at he
      rw [if_pos c] at he
      exact c he
    obtain ⟨e, h1, h2, h3, h4⟩ := lex_cut s cut h (by omega) (by omega) hl
    unfold scrT at he ⊢
    rw [if_neg (fun c => c hl)] at he
    rw [if_neg (fun c => c h1), if_neg (fun c => c hl)]
    exact scrF_heads chk h4 h2 h3 _ _ [] 0 (by omega) (by omega) he
end Go.Proofs.YtehedlgdencboabGreatDoor
