/-
  Boxes: five fields, what two share, what is left of one without another; each header in just one part, as many in all. No program is named here.
-/
import Derived.Test.YthggiblkehcfaaaMkPlB
namespace Go.Proofs.Ythggiblkehcfaaa
set_option linter.unusedVariables false

/-- From .. to. -/
def okI (s : Nat × Nat) : Bool := decide (s.1 ≤ s.2)
def hasI (s : Nat × Nat) (x : Nat) : Bool := decide (s.1 ≤ x ∧ x ≤ s.2)
def cntI (s : Nat × Nat) : Nat := s.2 + 1 - s.1
def meetI (s t : Nat × Nat) : Nat × Nat := (max s.1 t.1, min s.2 t.2)
def belI (s t : Nat × Nat) : List (Nat × Nat) := if s.1 < (meetI s t).1 then [(s.1, (meetI s t).1 - 1)] else []
def aboI (s t : Nat × Nat) : List (Nat × Nat) := if (meetI s t).2 < s.2 then [((meetI s t).2 + 1, s.2)] else []
def cutI (s t : Nat × Nat) : List (Nat × Nat) := belI s t ++ aboI s t
theorem meetI_has {s t : Nat × Nat} (x : Nat) : hasI (meetI s t) x = (hasI s x && hasI t x) := by
  unfold hasI meetI
  rw [Bool.eq_iff_iff]
  simp only [decide_eq_true_eq, Bool.and_eq_true]
  omega
theorem cutI_count {s t : Nat × Nat} (h : okI (meetI s t) = true) (x : Nat) : (cutI s t).countP (fun r => hasI r x) + (if hasI (meetI s t) x = true then 1 else 0) = if hasI s x = true then 1 else 0 := by
  have h := of_decide_eq_true h
  unfold cutI belI aboI
  rw [List.countP_append]
  generalize hm : meetI s t = m at *
  have e1 : m.1 = max s.1 t.1 := by rw [← hm]; rfl
  have e2 : m.2 = min s.2 t.2 := by rw [← hm]; rfl
  have c1 : (if s.1 < m.1 then [(s.1, m.1 - 1)] else []).countP (fun r => hasI r x) = if s.1 ≤ x ∧ x < m.1 then 1 else 0 := by
    split
    · unfold hasI
      rw [List.countP_cons, List.countP_nil]
      simp only [decide_eq_true_eq]
      by_cases hc : s.1 ≤ x ∧ x < m.1
      · rw [if_pos hc, if_pos (by omega)]
      · rw [if_neg hc, if_neg (by omega)]
    · rw [if_neg (by omega)]; rfl
  have c2 : (if m.2 < s.2 then [(m.2 + 1, s.2)] else []).countP (fun r => hasI r x) = if m.2 < x ∧ x ≤ s.2 then 1 else 0 := by
    split
    · unfold hasI
      rw [List.countP_cons, List.countP_nil]
      simp only [decide_eq_true_eq]
      by_cases hc : m.2 < x ∧ x ≤ s.2
      · rw [if_pos hc, if_pos (by omega)]
      · rw [if_neg hc, if_neg (by omega)]
    · rw [if_neg (by omega)]; rfl
  rw [c1, c2]
  unfold hasI
  simp only [decide_eq_true_eq]
  split <;> split <;> split <;> split <;> omega
theorem cutI_sum {s t : Nat × Nat} (h : okI (meetI s t) = true) : ((cutI s t).map cntI).sum + cntI (meetI s t) = cntI s := by
  have h := of_decide_eq_true h
  unfold cutI belI aboI
  generalize hm : meetI s t = m at *
  have e1 : m.1 = max s.1 t.1 := by rw [← hm]; rfl
  have e2 : m.2 = min s.2 t.2 := by rw [← hm]; rfl
  unfold cntI
  split <;> split <;> simp <;> omega
/-- What is cut off is within the one, and apart from the other. -/
theorem cutI_each {s t : Nat × Nat} (h : okI (meetI s t) = true) : ∀ r ∈ cutI s t, okI r = true ∧ s.1 ≤ r.1 ∧ r.2 ≤ s.2 ∧ okI (meetI r t) = false ∧ meetI r s = r := by
  have h := of_decide_eq_true h
  intro r hr
  have hx : (r = (s.1, (meetI s t).1 - 1) ∧ s.1 < (meetI s t).1) ∨ (r = ((meetI s t).2 + 1, s.2) ∧ (meetI s t).2 < s.2) := by
    unfold cutI belI aboI at hr
    rw [List.mem_append] at hr
    rcases hr with hr | hr
    · split at hr
      · exact .inl ⟨by simpa using hr, by assumption⟩
      · cases hr
    · split at hr
      · exact .inr ⟨by simpa using hr, by assumption⟩
      · cases hr
  unfold meetI at h hx
  simp only at h hx
  rcases hx with ⟨rfl, hx⟩ | ⟨rfl, hx⟩
  · refine ⟨decide_eq_true (by simp only; omega), Nat.le_refl _, by simp only; omega, decide_eq_false (by unfold meetI; simp only; omega), ?_⟩
    unfold meetI; simp only; rw [Prod.mk.injEq]; omega
  · refine ⟨decide_eq_true (by simp only; omega), by simp only; omega, Nat.le_refl _, decide_eq_false (by unfold meetI; simp only; omega), ?_⟩
    unfold meetI; simp only; rw [Prod.mk.injEq]; omega
/-- A box: Src, Dst, Sport, Dport, Proto. -/
structure Bx where
  a : Nat × Nat
  b : Nat × Nat
  c : Nat × Nat
  d : Nat × Nat
  m : Nat × Nat
  deriving DecidableEq
def okX (X : Bx) : Bool := okI X.a && okI X.b && okI X.c && okI X.d && okM X.m.1 X.m.2
/-- Does it hold the header of these fields? (What may not be holds none.) -/
def hasX (X : Bx) (s d p q r : Nat) : Bool := okX X && (hasI X.a s && hasI X.b d && hasI X.c p && hasI X.d q && hasM X.m.1 X.m.2 r)
def meetB (X Y : Bx) : Bx := ⟨meetI X.a Y.a, meetI X.b Y.b, meetI X.c Y.c, meetI X.d Y.d, (X.m.1 ||| Y.m.1, X.m.2 ||| Y.m.2)⟩
/-- Have they a header in common? -/
def bothX (X Y : Bx) : Bool := okX X && okX Y && !apM X.m.1 X.m.2 Y.m.1 Y.m.2 && okX (meetB X Y)
def lessB (X Y : Bx) : List Bx :=
  (cutI X.a Y.a).map (fun s => ⟨s, X.b, X.c, X.d, X.m⟩)
  ++ ((cutI X.b Y.b).map (fun s => ⟨meetI X.a Y.a, s, X.c, X.d, X.m⟩)
  ++ ((cutI X.c Y.c).map (fun s => ⟨meetI X.a Y.a, meetI X.b Y.b, s, X.d, X.m⟩)
  ++ ((cutI X.d Y.d).map (fun s => ⟨meetI X.a Y.a, meetI X.b Y.b, meetI X.c Y.c, s, X.m⟩)
  ++ (lessM X.m.1 X.m.2 Y.m.1 Y.m.2).map (fun k => ⟨meetI X.a Y.a, meetI X.b Y.b, meetI X.c Y.c, meetI X.d Y.d, k⟩))))
def lessX (X Y : Bx) : List Bx := if okX X && okX Y then (if bothX X Y then lessB X Y else [X]) else []
def cntX (X : Bx) : Nat := if okX X then cntI X.a * cntI X.b * cntI X.c * cntI X.d * cntM X.m.1 X.m.2 else 0
end Go.Proofs.Ythggiblkehcfaaa
