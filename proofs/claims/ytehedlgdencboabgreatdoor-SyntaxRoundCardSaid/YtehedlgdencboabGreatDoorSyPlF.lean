/-
  Stage 10 ahead: commands as they are printed and read; a script that is printed is read as itself. No program is named here.
-/
import Derived.Test.YtehedlgdencboabGreatDoorSyPlE
namespace Go.Proofs.YtehedlgdencboabGreatDoor
set_option linter.unusedVariables false
set_option linter.unusedSimpArgs false

def rp0 : Rp := ⟨0, 0, (0, 0), (0, 0), (0, 0), (0, 0), (0, 0)⟩
/-- A command's parts, as numbers: Kind, Pos, Id, Rule, Head. -/
structure Cm where
  k : Nat
  n : Nat
  i : Nat
  r : Rp
  h : Nat × Nat × Nat × Nat × Nat
def cm0 (k : Nat) : Cm := ⟨k, 0, 0, rp0, (0, 0, 0, 0, 0)⟩
def cmdW : Nat → List UInt8
  | 1 => [105, 110, 115, 101, 114, 116]
  | 2 => [100, 101, 108, 101, 116, 101]
  | 3 => [109, 111, 118, 101]
  | 4 => [97, 115, 107]
  | 5 => [116, 104, 105, 110]
  | 6 => [100, 117, 109, 112]
  | 7 => [115, 116, 97, 116, 115]
  | 8 => [115, 104, 97, 100, 111, 119, 115]
  | 9 => [99, 108, 97, 115, 104, 101, 115]
  | 10 => [109, 97, 112]
  | _ => []
def kindOf (w : List UInt8) : Nat := if w = cmdW 1 then 1 else if w = cmdW 2 then 2 else if w = cmdW 3 then 3 else if w = cmdW 4 then 4 else if w = cmdW 5 then 5 else if w = cmdW 6 then 6 else if w = cmdW 7 then 7 else if w = cmdW 8 then 8 else if w = cmdW 9 then 9 else if w = cmdW 10 then 10 else 0
theorem kindOf_W {k : Nat} (h : 1 ≤ k ∧ k ≤ 10) : kindOf (cmdW k) = k := by
  have : k = 1 ∨ k = 2 ∨ k = 3 ∨ k = 4 ∨ k = 5 ∨ k = 6 ∨ k = 7 ∨ k = 8 ∨ k = 9 ∨ k = 10 := by omega
  rcases this with rfl | rfl | rfl | rfl | rfl | rfl | rfl | rfl | rfl | rfl <;> decide
def headS (L : List Tk) (st : Rd) : (Nat × Nat × Nat × Nat × Nat) × Rd :=
  let s := addrS L st
  let d := addrS L s.2
  let p := numS L 65535 d.2
  let q := numS L 65535 p.2
  let m := numS L 255 q.2
  ((s.1, d.1, p.1, q.1, m.1), m.2)
/-- How a command is read, with the places of its rule's fields. -/
def cmdS (L : List Tk) (st : Rd) : Cm × List Nat × Rd :=
  let w := wordS L st
  let n := numS L 4294967295 w.2
  let r := ruleS L n.2
  let n2 := numS L 4294967295 n.2
  let h := headS L w.2
  if kindOf w.1 = 0 then (cm0 0, [], wrongS L 100 st.a w.2)
  else if kindOf w.1 = 1 then (⟨1, n.1, 0, r.1, (0, 0, 0, 0, 0)⟩, r.2.1, r.2.2)
  else if kindOf w.1 = 2 then (⟨2, 0, n.1, rp0, (0, 0, 0, 0, 0)⟩, [], n.2)
  else if kindOf w.1 = 3 then (⟨3, n2.1, n.1, rp0, (0, 0, 0, 0, 0)⟩, [], n2.2)
  else if kindOf w.1 = 4 then (⟨4, 0, 0, rp0, h.1⟩, [], h.2)
  else (cm0 (kindOf w.1), [], w.2)
def headP (h : Nat × Nat × Nat × Nat × Nat) : List Pc := addrP h.1 ++ bP :: (addrP h.2.1 ++ [bP, nP h.2.2.1, bP, nP h.2.2.2.1, bP, nP h.2.2.2.2])
def cmdP (C : Cm) : List Pc :=
  if C.k = 1 then [wP (cmdW 1), bP, nP C.n, bP] ++ ruleP C.r
  else if C.k = 2 then [wP (cmdW 2), bP, nP C.i]
  else if C.k = 3 then [wP (cmdW 3), bP, nP C.i, bP, nP C.n]
  else if C.k = 4 then [wP (cmdW 4), bP] ++ headP C.h
  else [wP (cmdW C.k)]
structure OkHd (h : Nat × Nat × Nat × Nat × Nat) : Prop where
  s : h.1 < 4294967296
  d : h.2.1 < 4294967296
  p : h.2.2.1 ≤ 65535
  q : h.2.2.2.1 ≤ 65535
  m : h.2.2.2.2 ≤ 255
/-- A command that may be. -/
structure OkCm (C : Cm) : Prop where
  k : 1 ≤ C.k ∧ C.k ≤ 10
  n : C.n ≤ 4294967295
  i : C.i ≤ 4294967295
  n0 : C.k ≠ 1 → C.k ≠ 3 → C.n = 0
  i0 : C.k ≠ 2 → C.k ≠ 3 → C.i = 0
  r0 : C.k ≠ 1 → C.r = rp0
  h0 : C.k ≠ 4 → C.h = (0, 0, 0, 0, 0)
  r1 : C.k = 1 → OkRp C.r
  h1 : OkHd C.h
def headG (h : Nat × Nat × Nat × Nat × Nat) : List (Nat × List UInt8 × Nat) := sgs (addrP h.1) ++ (sgs (addrP h.2.1) ++ [(2, Lib.decDigits h.2.2.1, h.2.2.1), (2, Lib.decDigits h.2.2.2.1, h.2.2.2.1), (2, Lib.decDigits h.2.2.2.2, h.2.2.2.2)])
def cmdG (C : Cm) : List (Nat × List UInt8 × Nat) :=
  if C.k = 1 then (1, cmdW 1, 0) :: (2, Lib.decDigits C.n, C.n) :: ruleG C.r
  else if C.k = 2 then [(1, cmdW 2, 0), (2, Lib.decDigits C.i, C.i)]
  else if C.k = 3 then [(1, cmdW 3, 0), (2, Lib.decDigits C.i, C.i), (2, Lib.decDigits C.n, C.n)]
  else if C.k = 4 then (1, cmdW 4, 0) :: headG C.h
  else [(1, cmdW C.k, 0)]
theorem head_ok {L : List Tk} {a : Nat} {w : Wr} {h : Nat × Nat × Nat × Nat × Nat} {r : List (Nat × List UInt8 × Nat)} (hL : (L.drop a).map sg = headG h ++ r) (hh : OkHd h) (hw : w.e = 0) : ∃ a', headS L ⟨a, w⟩ = (h, ⟨a', w⟩) ∧ (L.drop a').map sg = r := by
  have h0 : (L.drop a).map sg = sgs (addrP h.1) ++ (sgs (addrP h.2.1) ++ ((2, Lib.decDigits h.2.2.1, h.2.2.1) :: (2, Lib.decDigits h.2.2.2.1, h.2.2.2.1) :: (2, Lib.decDigits h.2.2.2.2, h.2.2.2.2) :: r)) := by
    rw [hL]; simp [headG]
  obtain ⟨e1, h1⟩ := addr_ok h0 hw hh.s
  obtain ⟨e2, h2⟩ := addr_ok h1 hw hh.d
  obtain ⟨e3, h3⟩ := num_ok (most := 65535) h2 hw hh.p
  obtain ⟨e4, h4⟩ := num_ok (most := 65535) h3 hw hh.q
  obtain ⟨e5, h5⟩ := num_ok (most := 255) h4 hw hh.m
  refine ⟨_, ?_, h5⟩
  unfold headS
  simp only [e1, e2, e3, e4, e5]
/-- What is printed is read as itself. -/
theorem cmd_ok {L : List Tk} {a : Nat} {w : Wr} {C : Cm} {r : List (Nat × List UInt8 × Nat)} (h : (L.drop a).map sg = cmdG C ++ r) (hC : OkCm C) (hw : w.e = 0) (hf : Fol r) : ∃ at_ a', cmdS L ⟨a, w⟩ = (C, at_, ⟨a', w⟩) ∧ (L.drop a').map sg = r := by
  obtain ⟨k, n, i, R, hd⟩ := C
  have hk := hC.k
  have hn0 := hC.n0
  have hi0 := hC.i0
  have hr0 := hC.r0
  have hh0 := hC.h0
  have hr1 := hC.r1
  have hn := hC.n
  have hi := hC.i
  have hh := hC.h1
  simp only at hk hn0 hi0 hr0 hh0 hr1 hn hi hh
  unfold cmdG at h
  simp only at h
  by_cases e1 : k = 1
  · subst e1
    rw [if_pos rfl] at h
    obtain ⟨f1, g1⟩ := word_ok h hw
    obtain ⟨f2, g2⟩ := num_ok (most := 4294967295) g1 hw hn
    obtain ⟨at_, a', f3, g3⟩ := rule_ok g2 (hr1 rfl) hw hf
    refine ⟨at_, a', ?_, g3⟩
    obtain rfl := hi0 (by decide) (by decide)
    obtain rfl := hh0 (by decide)
    unfold cmdS
    simp only [f1, f2, f3, show kindOf (cmdW 1) = 1 from kindOf_W (by decide)]
    simp
  · rw [if_neg e1] at h
    by_cases e2 : k = 2
    · subst e2
      rw [if_pos rfl] at h
      obtain ⟨f1, g1⟩ := word_ok h hw
      obtain ⟨f2, g2⟩ := num_ok (most := 4294967295) g1 hw hi
      refine ⟨[], _, ?_, g2⟩
      obtain rfl := hn0 (by decide) (by decide)
      obtain rfl := hr0 (by decide)
      obtain rfl := hh0 (by decide)
      unfold cmdS
      simp only [f1, f2, show kindOf (cmdW 2) = 2 from kindOf_W (by decide)]
      simp
    · rw [if_neg e2] at h
      by_cases e3 : k = 3
      · subst e3
        rw [if_pos rfl] at h
        obtain ⟨f1, g1⟩ := word_ok h hw
        obtain ⟨f2, g2⟩ := num_ok (most := 4294967295) g1 hw hi
        obtain ⟨f3, g3⟩ := num_ok (most := 4294967295) g2 hw hn
        refine ⟨[], _, ?_, g3⟩
        obtain rfl := hr0 (by decide)
        obtain rfl := hh0 (by decide)
        unfold cmdS
        simp only [f1, f2, f3, show kindOf (cmdW 3) = 3 from kindOf_W (by decide)]
        simp
      · rw [if_neg e3] at h
        by_cases e4 : k = 4
        · subst e4
          rw [if_pos rfl] at h
          obtain ⟨f1, g1⟩ := word_ok h hw
          obtain ⟨a', f2, g2⟩ := head_ok g1 hh hw
          refine ⟨[], a', ?_, g2⟩
          obtain rfl := hn0 (by decide) (by decide)
          obtain rfl := hi0 (by decide) (by decide)
          obtain rfl := hr0 (by decide)
          unfold cmdS
          simp only [f1, f2, show kindOf (cmdW 4) = 4 from kindOf_W (by decide)]
          simp
        · rw [if_neg e4] at h
          obtain ⟨f1, g1⟩ := word_ok h hw
          refine ⟨[], _, ?_, g1⟩
          obtain rfl := hn0 e1 e3
          obtain rfl := hi0 e2 e3
          obtain rfl := hr0 e1
          obtain rfl := hh0 e4
          unfold cmdS
          simp only [f1, kindOf_W hk, if_neg e1, if_neg e2, if_neg e3, if_neg e4, if_neg (show ¬ k = 0 by omega)]
          rfl
theorem cmd_sg (no i : Nat) (C : Cm) : (toksP no i (cmdP C)).map sg = cmdG C := by
  rw [toks_sg]
  unfold cmdP cmdG
  by_cases e1 : C.k = 1
  · rw [if_pos e1, if_pos e1]
    have := rule_sg no 0 C.r
    rw [toks_sg] at this
    simp only [List.cons_append, List.nil_append, filt_b, filt_n, filt_w, List.map_cons, this]
    rfl
  · rw [if_neg e1, if_neg e1]
    by_cases e2 : C.k = 2
    · rw [if_pos e2, if_pos e2]
      simp only [filt_b, filt_n, filt_w, List.filter_nil, List.map_cons, List.map_nil]
      rfl
    · rw [if_neg e2, if_neg e2]
      by_cases e3 : C.k = 3
      · rw [if_pos e3, if_pos e3]
        simp only [filt_b, filt_n, filt_w, List.filter_nil, List.map_cons, List.map_nil]
        rfl
      · rw [if_neg e3, if_neg e3]
        by_cases e4 : C.k = 4
        · rw [if_pos e4, if_pos e4]
          unfold headP addrP
          simp only [List.cons_append, List.nil_append, filt_b, filt_n, filt_s, filt_w, List.filter_nil, List.map_cons, List.map_nil]
          rfl
        · rw [if_neg e4, if_neg e4]
          simp only [filt_w, List.filter_nil, List.map_cons, List.map_nil]
          rfl
/-- One line's command, looked at. -/
def oneC (chk : Rp → Nat × Nat) (L : List Tk) (n : Nat) (a : Nat) : Cm × Rd :=
  ((cmdS L ⟨a, ⟨0, 0, 0⟩⟩).1, if (cmdS L ⟨a, ⟨0, 0, 0⟩⟩).1.k = 1 then fldS L (chk (cmdS L ⟨a, ⟨0, 0, 0⟩⟩).1.r) (cmdS L ⟨a, ⟨0, 0, 0⟩⟩).2.1 (manyS L 1000 n a (endS L (cmdS L ⟨a, ⟨0, 0, 0⟩⟩).2.2)) else manyS L 1000 n a (endS L (cmdS L ⟨a, ⟨0, 0, 0⟩⟩).2.2))
def scrF (chk : Rp → Nat × Nat) (L : List Tk) : Nat → List Cm → Nat → List Cm × Wr
  | 0, out, a => (out, ⟨0, 0, 0⟩)
  | n + 1, out, a =>
    if a < L.length then
      (if (tkA L a).k = 4 then scrF chk L n out (a + 1)
       else if (oneC chk L out.length a).2.w.e ≠ 0 then ([], (oneC chk L out.length a).2.w)
       else scrF chk L n (out ++ [(oneC chk L out.length a).1]) ((oneC chk L out.length a).2.a + 1))
    else (out, ⟨0, 0, 0⟩)
/-- What a script says. -/
def scrT (chk : Rp → Nat × Nat) (s : ByteArray) : List Cm × Wr := if (lexT s).2.e ≠ 0 then ([], (lexT s).2) else scrF chk (lexT s).1 ((lexT s).1.length + 1) [] 0
def gsC (l : List Cm) : List (Nat × List UInt8 × Nat) := l.flatMap fun C => cmdG C ++ [(4, [10], 0)]
theorem cmdG_head (C : Cm) : ∃ w r, cmdG C = (1, w, 0) :: r := by
  unfold cmdG
  by_cases e1 : C.k = 1
  · rw [if_pos e1]; exact ⟨_, _, rfl⟩
  · rw [if_neg e1]
    by_cases e2 : C.k = 2
    · rw [if_pos e2]; exact ⟨_, _, rfl⟩
    · rw [if_neg e2]
      by_cases e3 : C.k = 3
      · rw [if_pos e3]; exact ⟨_, _, rfl⟩
      · rw [if_neg e3]
        by_cases e4 : C.k = 4
        · rw [if_pos e4]; exact ⟨_, _, rfl⟩
        · rw [if_neg e4]; exact ⟨_, _, rfl⟩
theorem scr_ok (chk : Rp → Nat × Nat) (L : List Tk) : ∀ (l out : List Cm) (a n : Nat), (L.drop a).map sg = gsC l → l.length < n → (∀ C ∈ l, OkCm C ∧ (C.k = 1 → (chk C.r).1 = 0)) → out.length + l.length ≤ 1000 → scrF chk L n out a = (out ++ l, ⟨0, 0, 0⟩)
  | _, _, _, 0, _, hn, _, _ => by omega
  | [], out, a, n + 1, h, hn, hl, hm => by
    have : L.length ≤ a := by
      have := congrArg List.length h
      simp [gsC] at this
      omega
    show (if a < L.length then _ else _) = _
    rw [if_neg (by omega), List.append_nil]
  | C :: l, out, a, n + 1, h, hn, hl, hm => by
    obtain ⟨hC, hc⟩ := hl C (List.mem_cons_self ..)
    have h' : (L.drop a).map sg = cmdG C ++ ((4, [10], 0) :: gsC l) := by rw [h]; simp [gsC]
    obtain ⟨at_, a', e1, h1⟩ := cmd_ok (w := ⟨0, 0, 0⟩) h' hC rfl ⟨_, _, rfl, fun e => by cases e⟩
    obtain ⟨e2, h2⟩ := tk_sg h1
    have hk4 : (tkA L a').k = 4 := congrArg (·.1) e2
    have hk1 : (tkA L a).k = 1 := by
      obtain ⟨w, r, e⟩ := cmdG_head C
      rw [e] at h'
      exact congrArg (·.1) (tk_sg (x := (1, w, 0)) h').1
    have hlt : a < L.length := by
      rcases Nat.lt_or_ge a L.length with hh | hh
      · exact hh
      · obtain ⟨w, r, e⟩ := cmdG_head C
        rw [List.drop_eq_nil_of_le hh, e] at h'; cases h'
    have hone : oneC chk L out.length a = (C, ⟨a', ⟨0, 0, 0⟩⟩) := by
      unfold oneC
      rw [e1]
      have hm' : ¬ out.length = 1000 := by
        simp only [List.length_cons] at hm
        omega
      unfold endS manyS fldS
      by_cases hk : C.k = 1
      · simp only [hk4, hk, hc hk, hm', ne_eq, not_true_eq_false, and_false, if_false, true_and]
        simp
      · simp only [hk4, hk, hm', ne_eq, not_true_eq_false, and_false, if_false, true_and]
    show (if a < L.length then (if (tkA L a).k = 4 then _ else if (oneC chk L out.length a).2.w.e ≠ 0 then _ else scrF chk L n (out ++ [(oneC chk L out.length a).1]) ((oneC chk L out.length a).2.a + 1)) else _) = _
    rw [if_pos hlt, if_neg (by omega), hone, if_neg (by simp)]
    rw [scr_ok chk L l (out ++ [C]) (a' + 1) n h2 (by simp only [List.length_cons] at hn; omega) (fun x hx => hl x (List.mem_cons_of_mem _ hx)) (by simp only [List.length_append, List.length_cons, List.length_nil] at hm ⊢; omega)]
    rw [List.append_assoc]
    rfl
theorem linesC_sg : ∀ (l : List Cm) (no : Nat), (linesT no (l.map cmdP)).map sg = gsC l
  | [], no => rfl
  | C :: l, no => by
    show ((toksP no 0 (cmdP C) ++ [endP no (cmdP C)]) ++ linesT (no + 1) (l.map cmdP)).map sg = _
    rw [List.map_append, List.map_append, cmd_sg, linesC_sg l (no + 1)]
    simp [gsC, endP, sg]
theorem gsC_len : ∀ (l : List Cm), l.length ≤ (gsC l).length
  | [] => Nat.zero_le _
  | C :: l => by
    have := gsC_len l
    have e : gsC (C :: l) = cmdG C ++ [(4, [10], 0)] ++ gsC l := by simp [gsC]
    rw [e]
    simp only [List.length_append, List.length_cons, List.length_nil]
    omega
/-- A script that is printed is read as itself. -/
theorem print_readC (chk : Rp → Nat × Nat) (l : List Cm) (s : ByteArray) (hs : lexT s = (linesT 1 (l.map cmdP), ⟨0, 0, 0⟩)) (hl : ∀ C ∈ l, OkCm C ∧ (C.k = 1 → (chk C.r).1 = 0)) (hm : l.length ≤ 1000) : scrT chk s = (l, ⟨0, 0, 0⟩) := by
  unfold scrT
  rw [hs]
  have hg := linesC_sg l 1
  have hlen : l.length ≤ (linesT 1 (l.map cmdP)).length := by
    have h1 := congrArg List.length hg
    rw [List.length_map] at h1
    have := gsC_len l
    omega
  rw [if_neg (by simp)]
  have := scr_ok chk (linesT 1 (l.map cmdP)) l [] 0 ((linesT 1 (l.map cmdP)).length + 1) (by rw [List.drop_zero]; exact hg) (by omega) hl (by simpa using hm)
  simpa using this
end Go.Proofs.YtehedlgdencboabGreatDoor
