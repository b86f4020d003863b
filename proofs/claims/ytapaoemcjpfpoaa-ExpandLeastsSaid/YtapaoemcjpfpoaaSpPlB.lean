/-
  The union by one pass over spans that rise; the gaps by one pass over a union. No program is named here.
-/
import Derived.Test.YtapaoemcjpfpoaaSpPlain
namespace Go.Proofs.Ytapaoemcjpfpoaa
set_option linter.unusedVariables false
set_option linter.unusedSimpArgs false

/-- What the pass has joined of the spans so far. -/
def UI (pre J : List (Nat × Nat)) : Prop := Canon 0 J ∧ (∀ i, memB J i = memB pre i) ∧ (∀ t ∈ J, ∃ s ∈ pre, s.1 = t.1)
theorem UI.nil : UI [] [] := ⟨trivial, fun _ => rfl, fun t ht => by cases ht⟩
theorem hasB_no {s : Nat × Nat} (h : s.2 < s.1) (i : Nat) : hasB s i = false := by
  cases hc : hasB s i with
  | false => rfl
  | true => rw [hasB_iff] at hc; omega
theorem memB_snoc (l : List (Nat × Nat)) (s : Nat × Nat) (i : Nat) : memB (l ++ [s]) i = (memB l i || hasB s i) := by
  rw [memB_append, memB_cons, memB_nil, Bool.or_false]
theorem UI.skip {pre J : List (Nat × Nat)} {s : Nat × Nat} (h : UI pre J) (hs : s.2 < s.1) : UI (pre ++ [s]) J :=
  ⟨h.1, fun i => by rw [memB_snoc, hasB_no hs, Bool.or_false]; exact h.2.1 i, fun t ht => by obtain ⟨x, hx, e⟩ := h.2.2 t ht; exact ⟨x, List.mem_append_left _ hx, e⟩⟩
theorem UI.first {pre : List (Nat × Nat)} {s : Nat × Nat} (h : UI pre []) (hs : s.1 ≤ s.2) (hb : s.2 < 65536) : UI (pre ++ [s]) [s] :=
  ⟨⟨Nat.zero_le _, hs, hb, trivial⟩, fun i => by rw [memB_snoc, ← h.2.1 i, memB_cons, memB_nil, Bool.or_false, Bool.false_or], fun t ht => ⟨s, by simp, by rw [show t = s by simpa using ht]⟩⟩
theorem UI.join {pre f : List (Nat × Nat)} {s t : Nat × Nat} (h : UI pre (f ++ [t])) (hr : ∀ x ∈ pre, x.1 ≤ s.1) (hs : s.1 ≤ s.2) (hb : s.2 < 65536) (hj : s.1 ≤ t.2 + 1) : UI (pre ++ [s]) (f ++ [(t.1, max t.2 s.2)]) := by
  obtain ⟨h1, h2, h3⟩ := h
  have c := (canon_snoc t).1 h1
  have ht : t.1 ≤ s.1 := by
    obtain ⟨x, hx, e⟩ := h3 t (by simp)
    have := hr x hx
    omega
  refine ⟨(canon_snoc _).2 ⟨c.1, c.2.1, c.2.2.1, by show t.1 ≤ max t.2 s.2; omega, by show max t.2 s.2 < 65536; omega⟩, fun i => ?_, fun u hu => ?_⟩
  · rw [memB_snoc, memB_snoc, ← h2 i, memB_snoc, Bool.or_assoc]
    congr 1
    rw [Bool.eq_iff_iff, Bool.or_eq_true, hasB_iff, hasB_iff, hasB_iff]
    show t.1 ≤ i ∧ i ≤ max t.2 s.2 ↔ _
    omega
  · rcases List.mem_append.1 hu with hu | hu
    · obtain ⟨x, hx, e⟩ := h3 u (List.mem_append_left _ hu)
      exact ⟨x, List.mem_append_left _ hx, e⟩
    · obtain ⟨x, hx, e⟩ := h3 t (by simp)
      have : u = (t.1, max t.2 s.2) := by simpa using hu
      exact ⟨x, List.mem_append_left _ hx, by rw [this]; exact e⟩
theorem UI.new {pre f : List (Nat × Nat)} {s t : Nat × Nat} (h : UI pre (f ++ [t])) (hs : s.1 ≤ s.2) (hb : s.2 < 65536) (hj : ¬ s.1 ≤ t.2 + 1) : UI (pre ++ [s]) (f ++ [t] ++ [s]) := by
  obtain ⟨h1, h2, h3⟩ := h
  refine ⟨(canon_snoc s).2 ⟨h1, fun u hu => by have := canon_last h1 u hu; omega, Nat.zero_le _, hs, hb⟩, fun i => by rw [memB_snoc, h2, memB_snoc], fun u hu => ?_⟩
  rcases List.mem_append.1 hu with hu | hu
  · obtain ⟨x, hx, e⟩ := h3 u hu
    exact ⟨x, List.mem_append_left _ hx, e⟩
  · have : u = s := by simpa using hu
    exact ⟨s, by simp, by rw [this]⟩
theorem UI.done {l J : List (Nat × Nat)} (h : UI l J) : J = canonOf (memB l) := eq_canonOf h.1 fun i _ => h.2.1 i
theorem UI.len {l J : List (Nat × Nat)} (h : UI l J) : J.length ≤ 65536 := by rw [h.done]; exact length_canonOf _

/-- The gaps of a union, from next on. -/
def gapsF : Nat → List (Nat × Nat) → List (Nat × Nat)
  | next, [] => if next ≤ 65535 then [(next, 65535)] else []
  | next, s :: u => (if next < s.1 then [(next, s.1 - 1)] else []) ++ gapsF (s.2 + 1) u
theorem gapsF_is : ∀ (u : List (Nat × Nat)) (next : Nat), Canon next u → Canon next (gapsF next u) ∧ ∀ i, i < 65536 → memB (gapsF next u) i = (decide (next ≤ i) && !memB u i)
  | [], next, _ => by
    unfold gapsF
    by_cases h : next ≤ 65535
    · rw [if_pos h]
      refine ⟨⟨Nat.le_refl _, h, by show 65535 < 65536; omega, trivial⟩, fun i hi => ?_⟩
      rw [memB_cons, memB_nil, Bool.or_false, Bool.not_false, Bool.and_true, Bool.eq_iff_iff, hasB_iff, decide_eq_true_eq]
      show next ≤ i ∧ i ≤ 65535 ↔ _
      omega
    · rw [if_neg h]
      refine ⟨trivial, fun i hi => ?_⟩
      rw [memB_nil, decide_eq_false (by omega : ¬ next ≤ i), Bool.false_and]
  | s :: u, next, hc => by
    obtain ⟨c1, c2, c3, c4⟩ := hc
    obtain ⟨i1, i2⟩ := gapsF_is u (s.2 + 1) (c4.weak (by omega))
    have out : ∀ i, memB u i = true → s.2 + 2 ≤ i := fun i hi => (c4.from hi).1
    unfold gapsF
    by_cases h : next < s.1
    · rw [if_pos h]
      refine ⟨⟨Nat.le_refl _, by show next ≤ s.1 - 1; omega, by show s.1 - 1 < 65536; omega, i1.weak (by show s.1 - 1 + 2 ≤ _; omega)⟩, fun i hi => ?_⟩
      rw [List.singleton_append, memB_cons, i2 i hi, memB_cons, Bool.eq_iff_iff]
      cases hu : memB u i with
      | false =>
        simp only [Bool.or_eq_true, Bool.and_eq_true, hasB_iff, decide_eq_true_eq, Bool.not_false, Bool.or_false, and_true, Bool.not_eq_true', ← Bool.not_eq_true]
        show (next ≤ i ∧ i ≤ s.1 - 1) ∨ _ ↔ _
        omega
      | true =>
        have := out i hu
        simp only [Bool.or_eq_true, Bool.and_eq_true, hasB_iff, decide_eq_true_eq, Bool.not_true, Bool.or_true, Bool.false_eq_true, and_false, or_false, iff_false]
        show ¬ (next ≤ i ∧ i ≤ s.1 - 1)
        omega
    · rw [if_neg h]
      refine ⟨i1.weak (by omega), fun i hi => ?_⟩
      rw [List.nil_append, i2 i hi, memB_cons, Bool.eq_iff_iff]
      cases hu : memB u i with
      | false =>
        simp only [Bool.and_eq_true, hasB_iff, decide_eq_true_eq, Bool.not_false, Bool.or_false, and_true, Bool.not_eq_true', ← Bool.not_eq_true]
        omega
      | true => simp
theorem gaps_done (p : Nat → Bool) : gapsF 0 (canonOf p) = canonOf fun i => !p i := by
  obtain ⟨h1, h2⟩ := gapsF_is (canonOf p) 0 (canonOf_canon p)
  refine eq_canonOf h1 fun i hi => ?_
  rw [h2 i hi, canonOf_mem]
  simp [hi]
end Go.Proofs.Ytapaoemcjpfpoaa
