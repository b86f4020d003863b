/-
  Stage 10 ahead: a text of rules as the document reads it; a list that is printed is read as itself. No program is named here. ('chk': rule.Check's error and field.)
-/
import Derived.Test.YtehedlgdencboabGreatDoorSyPlD
namespace Go.Proofs.YtehedlgdencboabGreatDoor
set_option linter.unusedVariables false
set_option linter.unusedSimpArgs false

def endS (L : List Tk) (st : Rd) : Rd := if st.w.e = 0 ∧ (tkA L st.a).k ≠ 4 then wrongS L 100 st.a st else st
def manyS (L : List Tk) (most n first : Nat) (st : Rd) : Rd := if st.w.e = 0 ∧ n = most then wrongS L 102 first st else st
def fldS (L : List Tk) (e : Nat × Nat) (at_ : List Nat) (st : Rd) : Rd := if st.w.e = 0 ∧ e.1 ≠ 0 then wrongS L e.1 (at_.getD (min e.2 (at_.length - 1)) 0) st else st
def twiceS (L : List Tk) (b : Bool) (first : Nat) (st : Rd) : Rd := if st.w.e = 0 ∧ b = true then wrongS L 103 first st else st
/-- One line's rule, looked at. -/
def oneS (chk : Rp → Nat × Nat) (L : List Tk) (out : List Rp) (a : Nat) : Rp × Rd :=
  ((ruleS L ⟨a, ⟨0, 0, 0⟩⟩).1, twiceS L (out.any fun y => decide (y.i = (ruleS L ⟨a, ⟨0, 0, 0⟩⟩).1.i)) a (fldS L (chk (ruleS L ⟨a, ⟨0, 0, 0⟩⟩).1) (ruleS L ⟨a, ⟨0, 0, 0⟩⟩).2.1 (manyS L 64 out.length a (endS L (ruleS L ⟨a, ⟨0, 0, 0⟩⟩).2.2))))
def rulesF (chk : Rp → Nat × Nat) (L : List Tk) : Nat → List Rp → Nat → List Rp × Wr
  | 0, out, a => (out, ⟨0, 0, 0⟩)
  | n + 1, out, a =>
    if a < L.length then
      (if (tkA L a).k = 4 then rulesF chk L n out (a + 1)
       else if (oneS chk L out a).2.w.e ≠ 0 then ([], (oneS chk L out a).2.w)
       else rulesF chk L n (out ++ [(oneS chk L out a).1]) ((oneS chk L out a).2.a + 1))
    else (out, ⟨0, 0, 0⟩)
/-- What a text of rules says. -/
def rulesT (chk : Rp → Nat × Nat) (s : ByteArray) : List Rp × Wr := if (lexT s).2.e ≠ 0 then ([], (lexT s).2) else rulesF chk (lexT s).1 ((lexT s).1.length + 1) [] 0
def gsR (l : List Rp) : List (Nat × List UInt8 × Nat) := l.flatMap fun R => ruleG R ++ [(4, [10], 0)]
theorem rules_ok (chk : Rp → Nat × Nat) (L : List Tk) : ∀ (l out : List Rp) (a n : Nat), (L.drop a).map sg = gsR l → l.length < n → (∀ R ∈ l, OkRp R ∧ (chk R).1 = 0) → out.length + l.length ≤ 64 → ((out ++ l).map (·.i)).Nodup → rulesF chk L n out a = (out ++ l, ⟨0, 0, 0⟩)
  | _, _, _, 0, _, hn, _, _, _ => by omega
  | [], out, a, n + 1, h, hn, hl, h64, hd => by
    have : L.length ≤ a := by
      have := congrArg List.length h
      simp [gsR] at this
      omega
    show (if a < L.length then _ else _) = _
    rw [if_neg (by omega), List.append_nil]
  | R :: l, out, a, n + 1, h, hn, hl, h64, hd => by
    obtain ⟨hR, hc⟩ := hl R (List.mem_cons_self ..)
    have h' : (L.drop a).map sg = ruleG R ++ ((4, [10], 0) :: gsR l) := by rw [h]; simp [gsR]
    obtain ⟨at_, a', e1, h1⟩ := rule_ok (w := ⟨0, 0, 0⟩) h' hR rfl ⟨_, _, rfl, fun e => by cases e⟩
    obtain ⟨e2, h2⟩ := tk_sg h1
    have hk4 : (tkA L a').k = 4 := congrArg (·.1) e2
    have hk2 : (tkA L a).k = 2 := congrArg (·.1) (tk_sg (x := (2, Lib.decDigits R.i, R.i)) h').1
    have hlt : a < L.length := by
      rcases Nat.lt_or_ge a L.length with hh | hh
      · exact hh
      · rw [List.drop_eq_nil_of_le hh] at h'; cases h'
    have hany : (out.any fun y => decide (y.i = R.i)) = false := by
      rw [Bool.eq_false_iff]
      intro hh
      obtain ⟨y, hy, hyi⟩ := List.any_eq_true.1 hh
      have hyi' : y.i = R.i := by simpa using hyi
      rw [List.map_append, List.nodup_append] at hd
      exact hd.2.2 y.i (List.mem_map.2 ⟨y, hy, rfl⟩) R.i (List.mem_map.2 ⟨R, List.mem_cons_self .., rfl⟩) hyi'
    have hone : oneS chk L out a = (R, ⟨a', ⟨0, 0, 0⟩⟩) := by
      unfold oneS
      rw [e1]
      unfold endS manyS fldS twiceS
      have h64' : ¬ out.length = 64 := by
        simp only [List.length_cons] at h64
        omega
      simp only [hk4, hc, hany, h64', ne_eq, not_true_eq_false, and_false, if_false, true_and]
      simp
    show (if a < L.length then (if (tkA L a).k = 4 then _ else if (oneS chk L out a).2.w.e ≠ 0 then _ else rulesF chk L n (out ++ [(oneS chk L out a).1]) ((oneS chk L out a).2.a + 1)) else _) = _
    rw [if_pos hlt, if_neg (by omega), hone, if_neg (by simp)]
    rw [rules_ok chk L l (out ++ [R]) (a' + 1) n h2 (by simp only [List.length_cons] at hn; omega) (fun x hx => hl x (List.mem_cons_of_mem _ hx)) (by simp only [List.length_append, List.length_cons, List.length_nil] at h64 ⊢; omega) (by rw [List.append_assoc]; exact hd)]
    rw [List.append_assoc]
    rfl
theorem lines_sg : ∀ (l : List Rp) (no : Nat), (linesT no (l.map ruleP)).map sg = gsR l
  | [], no => rfl
  | R :: l, no => by
    show ((toksP no 0 (ruleP R) ++ [endP no (ruleP R)]) ++ linesT (no + 1) (l.map ruleP)).map sg = _
    rw [List.map_append, List.map_append, rule_sg, lines_sg l (no + 1)]
    simp [gsR, endP, sg]
theorem gs_len : ∀ (l : List Rp), l.length ≤ (gsR l).length
  | [] => Nat.zero_le _
  | R :: l => by
    have := gs_len l
    have e : gsR (R :: l) = ruleG R ++ [(4, [10], 0)] ++ gsR l := by simp [gsR]
    rw [e]
    simp only [List.length_append, List.length_cons, List.length_nil]
    omega
/-- A list that is printed is read as itself. -/
theorem print_read (chk : Rp → Nat × Nat) (l : List Rp) (s : ByteArray) (hs : lexT s = (linesT 1 (l.map ruleP), ⟨0, 0, 0⟩)) (hl : ∀ R ∈ l, OkRp R ∧ (chk R).1 = 0) (h64 : l.length ≤ 64) (hd : (l.map (·.i)).Nodup) : rulesT chk s = (l, ⟨0, 0, 0⟩) := by
  unfold rulesT
  rw [hs]
  have hg := lines_sg l 1
  have hlen : l.length ≤ (linesT 1 (l.map ruleP)).length := by
    have h1 := congrArg List.length hg
    rw [List.length_map] at h1
    have := gs_len l
    omega
  rw [if_neg (by simp)]
  have := rules_ok chk (linesT 1 (l.map ruleP)) l [] 0 ((linesT 1 (l.map ruleP)).length + 1) (by rw [List.drop_zero]; exact hg) (by omega) hl (by simpa using h64) (by simpa using hd)
  simpa using this
end Go.Proofs.YtehedlgdencboabGreatDoor
