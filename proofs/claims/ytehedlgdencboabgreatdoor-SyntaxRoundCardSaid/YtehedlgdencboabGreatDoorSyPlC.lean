/-
  Stage 10 ahead: how the document reads tokens (a place among them, and what is wrong first); a rule's pieces as they are printed; that what is printed is read as itself. No program is named here.
-/
import Derived.Test.YtehedlgdencboabGreatDoorSyPlB
namespace Go.Proofs.YtehedlgdencboabGreatDoor
set_option linter.unusedVariables false
set_option linter.unusedSimpArgs false

/-- Where the reader stands, and what is wrong. -/
structure Rd where
  a : Nat
  w : Wr
def tkA (L : List Tk) (i : Nat) : Tk := L.getD i ⟨4, ⟨#[]⟩, 0, 0, 0⟩
def wrongS (L : List Tk) (e i : Nat) (st : Rd) : Rd := if st.w.e = 0 then ⟨st.a, ⟨e, (tkA L i).l, (tkA L i).c⟩⟩ else st
def signS (L : List Tk) (c : Nat) (st : Rd) : Bool × Rd := if st.w.e = 0 ∧ (tkA L st.a).k = 3 ∧ (tkA L st.a).t.data.toList = [UInt8.ofNat c] then (true, ⟨st.a + 1, st.w⟩) else (false, st)
def numS (L : List Tk) (most : Nat) (st : Rd) : Nat × Rd :=
  if st.w.e ≠ 0 ∨ (tkA L st.a).k ≠ 2 then (0, wrongS L 100 st.a st)
  else if most < (tkA L st.a).v then (0, wrongS L 101 st.a st)
  else ((tkA L st.a).v, ⟨st.a + 1, st.w⟩)
def wordS (L : List Tk) (st : Rd) : List UInt8 × Rd := if st.w.e ≠ 0 ∨ (tkA L st.a).k ≠ 1 then ([], st) else ((tkA L st.a).t.data.toList, ⟨st.a + 1, st.w⟩)
/-- The rest of an address, behind n of its dots. -/
def dotsS (L : List Tk) : Nat → Nat → Rd → Nat × Rd
  | 0, x, st => (x, st)
  | n + 1, x, st => if (signS L 46 st).1 then dotsS L n (256 * x + (numS L 255 (signS L 46 st).2).1) (numS L 255 (signS L 46 st).2).2 else (0, wrongS L 100 (signS L 46 st).2.a (signS L 46 st).2)
def addrS (L : List Tk) (st : Rd) : Nat × Rd := dotsS L 3 (numS L 255 st).1 (numS L 255 st).2
/-- A part of two numbers with a sign between, or one, or '*'. -/
def pairS (L : List Tk) (c most : Nat) (one : Nat → Nat) (x : Nat) (st : Rd) : (Nat × Nat) × Rd :=
  if (signS L c st).1 then ((x, (numS L most (signS L c st).2).1), (numS L most (signS L c st).2).2) else ((x, one x), (signS L c st).2)
def prefS (L : List Tk) (st : Rd) : (Nat × Nat) × Rd := if (signS L 42 st).1 then ((0, 0), (signS L 42 st).2) else pairS L 47 32 (fun _ => 32) (addrS L (signS L 42 st).2).1 (addrS L (signS L 42 st).2).2
def spanS (L : List Tk) (st : Rd) : (Nat × Nat) × Rd := if (signS L 42 st).1 then ((0, 65535), (signS L 42 st).2) else pairS L 58 65535 (fun x => x) (numS L 65535 (signS L 42 st).2).1 (numS L 65535 (signS L 42 st).2).2
def maskS (L : List Tk) (st : Rd) : (Nat × Nat) × Rd := if (signS L 42 st).1 then ((0, 0), (signS L 42 st).2) else pairS L 47 255 (fun _ => 255) (numS L 255 (signS L 42 st).2).1 (numS L 255 (signS L 42 st).2).2
def actW : Nat → List UInt8
  | 1 => [100, 101, 110, 121]
  | 2 => [112, 101, 114, 109, 105, 116]
  | 3 => [108, 111, 103]
  | 4 => [113, 117, 101, 117, 101]
  | _ => []
def actOf (w : List UInt8) : Nat := if w = actW 1 then 1 else if w = actW 2 then 2 else if w = actW 3 then 3 else if w = actW 4 then 4 else 0
/-- What tokens say, but for where they stand. -/
def sg (t : Tk) : Nat × List UInt8 × Nat := (t.k, t.t.data.toList, t.v)
def sgP (p : Pc) : Nat × List UInt8 × Nat := (p.k, p.t, p.v)
theorem toks_sg (no : Nat) : ∀ (l : List Pc) (i : Nat), (toksP no i l).map sg = (l.filter fun p => decide (p.k ≠ 0)).map sgP
  | [], i => rfl
  | p :: l, i => by
    by_cases hk : p.k = 0
    · rw [toksP_blank hk, toks_sg no l, List.filter_cons_of_neg (by simp [hk])]
    · rw [toksP_tok hk, List.map_cons, toks_sg no l, List.filter_cons_of_pos (by simp [hk])]
      rfl
theorem tk_sg {L : List Tk} {a : Nat} {x : Nat × List UInt8 × Nat} {r : List (Nat × List UInt8 × Nat)} (h : (L.drop a).map sg = x :: r) : sg (tkA L a) = x ∧ (L.drop (a + 1)).map sg = r := by
  cases hd : L.drop a with
  | nil => rw [hd] at h; cases h
  | cons t l =>
    rw [hd, List.map_cons, List.cons.injEq] at h
    have h1 : L[a]? = some t := by
      have := congrArg (·[0]?) hd
      simpa using this
    have h2 : L.drop (a + 1) = l := by rw [← List.drop_drop, hd]; rfl
    exact ⟨by unfold tkA; rw [List.getD_eq_getElem?_getD, h1]; exact h.1, by rw [h2]; exact h.2⟩
theorem num_ok {L : List Tk} {a most v : Nat} {t : List UInt8} {w : Wr} {r : List (Nat × List UInt8 × Nat)} (h : (L.drop a).map sg = (2, t, v) :: r) (hw : w.e = 0) (hv : v ≤ most) : numS L most ⟨a, w⟩ = (v, ⟨a + 1, w⟩) ∧ (L.drop (a + 1)).map sg = r := by
  obtain ⟨h1, h2⟩ := tk_sg h
  have hk : (tkA L a).k = 2 := congrArg (·.1) h1
  have hvv : (tkA L a).v = v := congrArg (·.2.2) h1
  refine ⟨?_, h2⟩
  unfold numS
  rw [if_neg (by rintro (c | c); exact c hw; exact c hk), if_neg (by show ¬ most < (tkA L a).v; omega)]
  show ((tkA L a).v, _) = _
  rw [hvv]
theorem sign_ok {L : List Tk} {a c : Nat} {w : Wr} {v : Nat} {r : List (Nat × List UInt8 × Nat)} (h : (L.drop a).map sg = (3, [UInt8.ofNat c], v) :: r) (hw : w.e = 0) : signS L c ⟨a, w⟩ = (true, ⟨a + 1, w⟩) ∧ (L.drop (a + 1)).map sg = r := by
  obtain ⟨h1, h2⟩ := tk_sg h
  refine ⟨?_, h2⟩
  unfold signS
  rw [if_pos ⟨hw, congrArg (·.1) h1, congrArg (·.2.1) h1⟩]
theorem sign_no {L : List Tk} {a c : Nat} {w : Wr} {x : Nat × List UInt8 × Nat} {r : List (Nat × List UInt8 × Nat)} (h : (L.drop a).map sg = x :: r) (hx : ¬ (x.1 = 3 ∧ x.2.1 = [UInt8.ofNat c])) : signS L c ⟨a, w⟩ = (false, ⟨a, w⟩) := by
  obtain ⟨h1, h2⟩ := tk_sg h
  unfold signS
  rw [if_neg]
  rintro ⟨_, e1, e2⟩
  apply hx
  rw [← h1]
  exact ⟨e1, e2⟩
theorem word_ok {L : List Tk} {a v : Nat} {t : List UInt8} {w : Wr} {r : List (Nat × List UInt8 × Nat)} (h : (L.drop a).map sg = (1, t, v) :: r) (hw : w.e = 0) : wordS L ⟨a, w⟩ = (t, ⟨a + 1, w⟩) ∧ (L.drop (a + 1)).map sg = r := by
  obtain ⟨h1, h2⟩ := tk_sg h
  refine ⟨?_, h2⟩
  unfold wordS
  rw [if_neg (by rintro (c | c); exact c hw; exact c (congrArg (·.1) h1))]
  show ((tkA L a).t.data.toList, _) = _
  rw [show (tkA L a).t.data.toList = t from congrArg (·.2.1) h1]
/-- Pieces. -/
def nP (n : Nat) : Pc := ⟨2, Lib.decDigits n, n⟩
def sP (c : Nat) : Pc := ⟨3, [UInt8.ofNat c], 0⟩
def wP (w : List UInt8) : Pc := ⟨1, w, 0⟩
def bP : Pc := ⟨0, [32], 0⟩
theorem ok_nP {n : Nat} (h : n ≤ 4294967295) : OkP (nP n) := {
  k := by show 2 ≤ 3; decide
  ne := List.length_pos_iff.2 (dec_ne n)
  kd := fun c hc => by
    have h9 := dec_digit n n (Nat.le_refl _) c hc
    have h4 := kd4 c.toNat
    unfold digitB at h4
    rw [decide_eq_true h9] at h4
    rw [of_decide_eq_true h4.symm]
    rfl
  one := fun h => by rcases h with h | h <;> cases h
  word := fun h => by cases h
  num := fun _ => ⟨rfl, h⟩
  val := fun h => absurd rfl h }
theorem ok_sP {c : Nat} (h : kd (UInt8.ofNat c).toNat = 5) : OkP (sP c) := {
  k := by show 3 ≤ 3; decide
  ne := by show 0 < 1; decide
  kd := fun d hd => by rw [List.mem_singleton.1 hd, h]; rfl
  one := fun _ => rfl
  word := fun h => by cases h
  num := fun h => by cases h
  val := fun _ => rfl }
theorem ok_bP : OkP bP := {
  k := by decide
  ne := by decide
  kd := fun d hd => by rw [List.mem_singleton.1 hd]; decide
  one := fun _ => rfl
  word := fun h => by cases h
  num := fun h => by cases h
  val := fun _ => rfl }
def addrP (x : Nat) : List Pc := [nP (x / 16777216), sP 46, nP (x / 65536 % 256), sP 46, nP (x / 256 % 256), sP 46, nP (x % 256)]
def prefP (x n : Nat) : List Pc := if n = 0 then [sP 42] else if n = 32 then addrP x else addrP x ++ [sP 47, nP n]
def spanP (lo hi : Nat) : List Pc := if lo = 0 ∧ hi = 65535 then [sP 42] else if lo = hi then [nP lo] else [nP lo, sP 58, nP hi]
def maskP (v c : Nat) : List Pc := if c = 0 then [sP 42] else if c = 255 then [nP v] else [nP v, sP 47, nP c]
def sgs (l : List Pc) : List (Nat × List UInt8 × Nat) := l.map sgP
/-- What may follow a part: no sign that would belong to it. -/
def Fol (r : List (Nat × List UInt8 × Nat)) : Prop := ∃ x r', r = x :: r' ∧ (x.1 = 3 → x.2.1 = [UInt8.ofNat 42])
theorem fol_no {L : List Tk} {a c : Nat} {w : Wr} {r : List (Nat × List UInt8 × Nat)} (h : (L.drop a).map sg = r) (hf : Fol r) (hc : [UInt8.ofNat 42] ≠ [UInt8.ofNat c]) : signS L c ⟨a, w⟩ = (false, ⟨a, w⟩) := by
  obtain ⟨x, r', rfl, hx⟩ := hf
  exact sign_no h (fun e => hc (by rw [← hx e.1]; exact e.2))
theorem addr_ok {L : List Tk} {a x : Nat} {w : Wr} {r : List (Nat × List UInt8 × Nat)} (h : (L.drop a).map sg = sgs (addrP x) ++ r) (hw : w.e = 0) (hx : x < 4294967296) : addrS L ⟨a, w⟩ = (x, ⟨a + 7, w⟩) ∧ (L.drop (a + 7)).map sg = r := by
  obtain ⟨e1, h1⟩ := num_ok (most := 255) h hw (show x / 16777216 ≤ 255 by omega)
  obtain ⟨e2, h2⟩ := sign_ok h1 hw
  obtain ⟨e3, h3⟩ := num_ok (most := 255) h2 hw (show x / 65536 % 256 ≤ 255 by omega)
  obtain ⟨e4, h4⟩ := sign_ok h3 hw
  obtain ⟨e5, h5⟩ := num_ok (most := 255) h4 hw (show x / 256 % 256 ≤ 255 by omega)
  obtain ⟨e6, h6⟩ := sign_ok h5 hw
  obtain ⟨e7, h7⟩ := num_ok (most := 255) h6 hw (show x % 256 ≤ 255 by omega)
  refine ⟨?_, h7⟩
  unfold addrS dotsS dotsS dotsS dotsS
  simp only [e1, e2, e3, e4, e5, e6, e7, if_true]
  congr 1
  simp only [nP]
  omega
theorem pref_ok {L : List Tk} {a x n : Nat} {w : Wr} {r : List (Nat × List UInt8 × Nat)} (h : (L.drop a).map sg = sgs (prefP x n) ++ r) (hw : w.e = 0) (hx : x < 4294967296) (hn : n ≤ 32) (h0 : n = 0 → x = 0) (hf : Fol r) : ∃ a', prefS L ⟨a, w⟩ = ((x, n), ⟨a', w⟩) ∧ (L.drop a').map sg = r := by
  unfold prefP at h
  by_cases e0 : n = 0
  · rw [if_pos e0] at h
    obtain ⟨e1, h1⟩ := sign_ok h hw
    refine ⟨a + 1, ?_, h1⟩
    unfold prefS
    simp only [e1, if_true]
    rw [e0, h0 e0]
  · rw [if_neg e0] at h
    have hno : signS L 42 ⟨a, w⟩ = (false, ⟨a, w⟩) := by
      by_cases e : n = 32
      · rw [if_pos e] at h; exact sign_no h (fun c => by cases c.1)
      · rw [if_neg e] at h; exact sign_no h (fun c => by cases c.1)
    by_cases e : n = 32
    · rw [if_pos e] at h
      obtain ⟨e1, h1⟩ := addr_ok h hw hx
      refine ⟨a + 7, ?_, h1⟩
      unfold prefS pairS
      simp only [hno, e1, fol_no (c := 47) h1 hf (by decide)]
      simp [e, nP]
    · rw [if_neg e] at h
      have h' : (L.drop a).map sg = sgs (addrP x) ++ ((3, [UInt8.ofNat 47], 0) :: (2, Lib.decDigits n, n) :: r) := by rw [h]; simp [sgs, sgP, sP, nP]
      obtain ⟨e1, h1⟩ := addr_ok h' hw hx
      obtain ⟨e2, h2⟩ := sign_ok h1 hw
      obtain ⟨e3, h3⟩ := num_ok (most := 32) h2 hw hn
      refine ⟨_, ?_, h3⟩
      unfold prefS pairS
      simp only [hno, e1, e2, e3, if_true]
      simp [nP]
theorem span_ok {L : List Tk} {a lo hi : Nat} {w : Wr} {r : List (Nat × List UInt8 × Nat)} (h : (L.drop a).map sg = sgs (spanP lo hi) ++ r) (hw : w.e = 0) (h1 : lo ≤ 65535) (h2 : hi ≤ 65535) (hf : Fol r) : ∃ a', spanS L ⟨a, w⟩ = ((lo, hi), ⟨a', w⟩) ∧ (L.drop a').map sg = r := by
  unfold spanP at h
  by_cases e0 : lo = 0 ∧ hi = 65535
  · rw [if_pos e0] at h
    obtain ⟨e1, h3⟩ := sign_ok h hw
    refine ⟨a + 1, ?_, h3⟩
    unfold spanS
    simp only [e1, if_true]
    rw [e0.1, e0.2]
  · rw [if_neg e0] at h
    by_cases e : lo = hi
    · rw [if_pos e] at h
      have hno : signS L 42 ⟨a, w⟩ = (false, ⟨a, w⟩) := sign_no h (fun c => by cases c.1)
      obtain ⟨e1, h3⟩ := num_ok (most := 65535) h hw h1
      refine ⟨a + 1, ?_, h3⟩
      unfold spanS pairS
      simp only [hno, e1, fol_no (c := 58) h3 hf (by decide)]
      simp [e, nP]
    · rw [if_neg e] at h
      have hno : signS L 42 ⟨a, w⟩ = (false, ⟨a, w⟩) := sign_no h (fun c => by cases c.1)
      obtain ⟨e1, h3⟩ := num_ok (most := 65535) h hw h1
      obtain ⟨e2, h4⟩ := sign_ok h3 hw
      obtain ⟨e3, h5⟩ := num_ok (most := 65535) h4 hw h2
      refine ⟨_, ?_, h5⟩
      unfold spanS pairS
      simp only [hno, e1, e2, e3, if_true]
      simp [nP]
theorem mask_ok {L : List Tk} {a v c : Nat} {w : Wr} {r : List (Nat × List UInt8 × Nat)} (h : (L.drop a).map sg = sgs (maskP v c) ++ r) (hw : w.e = 0) (h1 : v ≤ 255) (h2 : c ≤ 255) (h0 : c = 0 → v = 0) (hf : Fol r) : ∃ a', maskS L ⟨a, w⟩ = ((v, c), ⟨a', w⟩) ∧ (L.drop a').map sg = r := by
  unfold maskP at h
  by_cases e0 : c = 0
  · rw [if_pos e0] at h
    obtain ⟨e1, h3⟩ := sign_ok h hw
    refine ⟨a + 1, ?_, h3⟩
    unfold maskS
    simp only [e1, if_true]
    rw [e0, h0 e0]
  · rw [if_neg e0] at h
    by_cases e : c = 255
    · rw [if_pos e] at h
      have hno : signS L 42 ⟨a, w⟩ = (false, ⟨a, w⟩) := sign_no h (fun c => by cases c.1)
      obtain ⟨e1, h3⟩ := num_ok (most := 255) h hw h1
      refine ⟨a + 1, ?_, h3⟩
      unfold maskS pairS
      simp only [hno, e1, fol_no (c := 47) h3 hf (by decide)]
      simp [e, nP]
    · rw [if_neg e] at h
      have hno : signS L 42 ⟨a, w⟩ = (false, ⟨a, w⟩) := sign_no h (fun c => by cases c.1)
      obtain ⟨e1, h3⟩ := num_ok (most := 255) h hw h1
      obtain ⟨e2, h4⟩ := sign_ok h3 hw
      obtain ⟨e3, h5⟩ := num_ok (most := 255) h4 hw h2
      refine ⟨_, ?_, h5⟩
      unfold maskS pairS
      simp only [hno, e1, e2, e3, if_true]
      simp [nP]
end Go.Proofs.YtehedlgdencboabGreatDoor
