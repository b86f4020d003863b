/-
  Stage 10 ahead: a rule's line as it is printed, and read again. No program is named here.
-/
import Derived.Test.YtehedlgdencboabGreatDoorSyPlC
namespace Go.Proofs.YtehedlgdencboabGreatDoor
set_option linter.unusedVariables false
set_option linter.unusedSimpArgs false

/-- A rule's parts, as numbers: Id, Action, Src, Dst, Sport, Dport, Proto. -/
structure Rp where
  i : Nat
  t : Nat
  s : Nat × Nat
  d : Nat × Nat
  p : Nat × Nat
  q : Nat × Nat
  m : Nat × Nat
/-- How a rule is read, with the places of its fields. -/
def ruleS (L : List Tk) (st : Rd) : Rp × List Nat × Rd :=
  let n := numS L 4294967295 st
  let w := wordS L n.2
  let st2 := if actOf w.1 = 0 then wrongS L 100 n.2.a w.2 else w.2
  let s := prefS L st2
  let d := prefS L s.2
  let p := spanS L d.2
  let q := spanS L p.2
  let m := maskS L q.2
  (⟨n.1, actOf w.1, s.1, d.1, p.1, q.1, m.1⟩, [0, st.a, st2.a, s.2.a, d.2.a, p.2.a, q.2.a], m.2)
def ruleP (R : Rp) : List Pc := [nP R.i, bP, wP (actW R.t), bP] ++ (prefP R.s.1 R.s.2 ++ bP :: (prefP R.d.1 R.d.2 ++ bP :: (spanP R.p.1 R.p.2 ++ bP :: (spanP R.q.1 R.q.2 ++ bP :: maskP R.m.1 R.m.2))))
structure OkRp (R : Rp) : Prop where
  i : R.i ≤ 4294967295
  t : 1 ≤ R.t ∧ R.t ≤ 4
  s : R.s.1 < 4294967296 ∧ R.s.2 ≤ 32 ∧ (R.s.2 = 0 → R.s.1 = 0)
  d : R.d.1 < 4294967296 ∧ R.d.2 ≤ 32 ∧ (R.d.2 = 0 → R.d.1 = 0)
  p : R.p.1 ≤ 65535 ∧ R.p.2 ≤ 65535
  q : R.q.1 ≤ 65535 ∧ R.q.2 ≤ 65535
  m : R.m.1 ≤ 255 ∧ R.m.2 ≤ 255 ∧ (R.m.2 = 0 → R.m.1 = 0)
theorem actOf_W {t : Nat} (h : 1 ≤ t ∧ t ≤ 4) : actOf (actW t) = t := by
  have : t = 1 ∨ t = 2 ∨ t = 3 ∨ t = 4 := by omega
  rcases this with rfl | rfl | rfl | rfl <;> decide
/-- A part begins with a number or '*'. -/
def Beg (l : List Pc) : Prop := ∃ x r, sgs l = x :: r ∧ (x.1 = 3 → x.2.1 = [UInt8.ofNat 42])
theorem beg_num (n : Nat) (l : List Pc) : Beg (nP n :: l) := ⟨_, _, rfl, fun h => by cases h⟩
theorem beg_all (l : List Pc) : Beg (sP 42 :: l) := ⟨_, _, rfl, fun _ => rfl⟩
theorem beg_pref (x n : Nat) : Beg (prefP x n) := by
  unfold prefP
  split
  · exact beg_all _
  · split
    · exact beg_num _ _
    · exact beg_num _ _
theorem beg_span (a b : Nat) : Beg (spanP a b) := by
  unfold spanP
  split
  · exact beg_all _
  · split
    · exact beg_num _ _
    · exact beg_num _ _
theorem beg_mask (a b : Nat) : Beg (maskP a b) := by
  unfold maskP
  split
  · exact beg_all _
  · split
    · exact beg_num _ _
    · exact beg_num _ _
theorem Beg.fol {l : List Pc} (h : Beg l) (r : List (Nat × List UInt8 × Nat)) : Fol (sgs l ++ r) := by
  obtain ⟨x, r', e, hx⟩ := h
  exact ⟨x, r' ++ r, by rw [e]; rfl, hx⟩
/-- What a rule's line says, blanks left out. -/
def ruleG (R : Rp) : List (Nat × List UInt8 × Nat) := (2, Lib.decDigits R.i, R.i) :: (1, actW R.t, 0) :: (sgs (prefP R.s.1 R.s.2) ++ (sgs (prefP R.d.1 R.d.2) ++ (sgs (spanP R.p.1 R.p.2) ++ (sgs (spanP R.q.1 R.q.2) ++ sgs (maskP R.m.1 R.m.2)))))
/-- What is printed is read as itself. -/
theorem rule_ok {L : List Tk} {a : Nat} {w : Wr} {R : Rp} {r : List (Nat × List UInt8 × Nat)} (h : (L.drop a).map sg = ruleG R ++ r) (hR : OkRp R) (hw : w.e = 0) (hf : Fol r) : ∃ at_ a', ruleS L ⟨a, w⟩ = (R, at_, ⟨a', w⟩) ∧ (L.drop a').map sg = r := by
  have h0 : (L.drop a).map sg = (2, Lib.decDigits R.i, R.i) :: ((1, actW R.t, 0) :: (sgs (prefP R.s.1 R.s.2) ++ (sgs (prefP R.d.1 R.d.2) ++ (sgs (spanP R.p.1 R.p.2) ++ (sgs (spanP R.q.1 R.q.2) ++ (sgs (maskP R.m.1 R.m.2) ++ r)))))) := by
    rw [h]; simp [ruleG]
  obtain ⟨e1, h1⟩ := num_ok (most := 4294967295) h0 hw hR.i
  obtain ⟨e2, h2⟩ := word_ok h1 hw
  obtain ⟨a3, e3, h3⟩ := pref_ok h2 hw hR.s.1 hR.s.2.1 hR.s.2.2 ((beg_pref _ _).fol _)
  obtain ⟨a4, e4, h4⟩ := pref_ok h3 hw hR.d.1 hR.d.2.1 hR.d.2.2 ((beg_span _ _).fol _)
  obtain ⟨a5, e5, h5⟩ := span_ok h4 hw hR.p.1 hR.p.2 ((beg_span _ _).fol _)
  obtain ⟨a6, e6, h6⟩ := span_ok h5 hw hR.q.1 hR.q.2 ((beg_mask _ _).fol _)
  obtain ⟨a7, e7, h7⟩ := mask_ok h6 hw hR.m.1 hR.m.2.1 hR.m.2.2 hf
  have ha : actOf (actW R.t) = R.t := actOf_W hR.t
  have ht0 : ¬ R.t = 0 := by have := hR.t.1; omega
  refine ⟨[0, a, a + 1 + 1, a3, a4, a5, a6], a7, ?_, h7⟩
  unfold ruleS
  simp only [e1, e2, ha, if_neg ht0, e3, e4, e5, e6, e7]
theorem filt_app (l m : List Pc) : ((l ++ m).filter fun p => decide (p.k ≠ 0)) = (l.filter fun p => decide (p.k ≠ 0)) ++ (m.filter fun p => decide (p.k ≠ 0)) := List.filter_append ..
theorem filt_b (l : List Pc) : ((bP :: l).filter fun p => decide (p.k ≠ 0)) = l.filter fun p => decide (p.k ≠ 0) := List.filter_cons_of_neg (by decide)
theorem filt_n (n : Nat) (l : List Pc) : ((nP n :: l).filter fun p => decide (p.k ≠ 0)) = nP n :: l.filter fun p => decide (p.k ≠ 0) := List.filter_cons_of_pos (by simp [nP])
theorem filt_s (n : Nat) (l : List Pc) : ((sP n :: l).filter fun p => decide (p.k ≠ 0)) = sP n :: l.filter fun p => decide (p.k ≠ 0) := List.filter_cons_of_pos (by simp [sP])
theorem filt_w (x : List UInt8) (l : List Pc) : ((wP x :: l).filter fun p => decide (p.k ≠ 0)) = wP x :: l.filter fun p => decide (p.k ≠ 0) := List.filter_cons_of_pos (by simp [wP])
theorem filt_pref (x n : Nat) : ((prefP x n).filter fun p => decide (p.k ≠ 0)) = prefP x n := by
  unfold prefP addrP
  split
  · simp only [filt_s, List.filter_nil]
  · split
    · simp only [filt_n, filt_s, List.filter_nil]
    · simp only [List.cons_append, List.nil_append, filt_n, filt_s, List.filter_nil]
theorem filt_span (x n : Nat) : ((spanP x n).filter fun p => decide (p.k ≠ 0)) = spanP x n := by
  unfold spanP
  split
  · simp only [filt_s, List.filter_nil]
  · split <;> simp only [filt_n, filt_s, List.filter_nil]
theorem filt_mask (x n : Nat) : ((maskP x n).filter fun p => decide (p.k ≠ 0)) = maskP x n := by
  unfold maskP
  split
  · simp only [filt_s, List.filter_nil]
  · split <;> simp only [filt_n, filt_s, List.filter_nil]
theorem rule_sg (no i : Nat) (R : Rp) : (toksP no i (ruleP R)).map sg = ruleG R := by
  rw [toks_sg]
  unfold ruleP
  simp only [List.cons_append, List.nil_append, filt_app, filt_b, filt_n, filt_w, filt_pref, filt_span, filt_mask, List.map_append, List.map_cons]
  rfl
end Go.Proofs.YtehedlgdencboabGreatDoor
