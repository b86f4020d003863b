/-
  Sets of ports as spans: a list of spans that rises and leaves a port between each two is the only such list of its set; the union, the gaps, counts. No program is named here.
-/
namespace Go.Proofs.Ytcjpjofoddpfhaa.Xp
set_option linter.unusedVariables false
set_option linter.unusedSimpArgs false

def hasB (s : Nat × Nat) (i : Nat) : Bool := decide (s.1 ≤ i) && decide (i ≤ s.2)
def memB (l : List (Nat × Nat)) (i : Nat) : Bool := l.any fun s => hasB s i
theorem hasB_iff (s : Nat × Nat) (i : Nat) : hasB s i = true ↔ s.1 ≤ i ∧ i ≤ s.2 := by simp [hasB]
theorem memB_nil (i : Nat) : memB [] i = false := rfl
theorem memB_cons (s : Nat × Nat) (l : List (Nat × Nat)) (i : Nat) : memB (s :: l) i = (hasB s i || memB l i) := rfl
theorem memB_append (l m : List (Nat × Nat)) (i : Nat) : memB (l ++ m) i = (memB l i || memB m i) := by simp [memB, List.any_append]
theorem memB_iff (l : List (Nat × Nat)) (i : Nat) : memB l i = true ↔ ∃ s ∈ l, s.1 ≤ i ∧ i ≤ s.2 := by simp [memB, hasB]

/-- Rising, a port between each two, from k on. -/
def Canon : Nat → List (Nat × Nat) → Prop
  | _, [] => True
  | k, s :: l => k ≤ s.1 ∧ s.1 ≤ s.2 ∧ s.2 < 65536 ∧ Canon (s.2 + 2) l
theorem Canon.weak : ∀ {l : List (Nat × Nat)} {k j : Nat}, Canon k l → j ≤ k → Canon j l
  | [], _, _, _, _ => trivial
  | s :: l, k, j, h, hj => ⟨Nat.le_trans hj h.1, h.2⟩
theorem Canon.from {l : List (Nat × Nat)} {k i : Nat} (h : Canon k l) (hi : memB l i = true) : k ≤ i ∧ i < 65536 := by
  induction l generalizing k with
  | nil => cases hi
  | cons s l ih =>
    obtain ⟨h1, h2, h3, h4⟩ := h
    rw [memB_cons, Bool.or_eq_true, hasB_iff] at hi
    rcases hi with hi | hi
    · omega
    · have := ih h4 hi; omega
theorem Canon.each {l : List (Nat × Nat)} {k : Nat} (h : Canon k l) : ∀ s ∈ l, k ≤ s.1 ∧ s.1 ≤ s.2 ∧ s.2 < 65536 := by
  induction l generalizing k with
  | nil => intro s hs; cases hs
  | cons t l ih =>
    obtain ⟨h1, h2, h3, h4⟩ := h
    intro s hs
    rcases List.mem_cons.1 hs with rfl | hs
    · exact ⟨h1, h2, h3⟩
    · have := ih h4 s hs; omega
theorem canon_uniq : ∀ {l m : List (Nat × Nat)} {k : Nat}, Canon k l → Canon k m → (∀ i, memB l i = memB m i) → l = m
  | [], [], _, _, _, _ => rfl
  | [], t :: m, _, _, h2, h => by
    have := h t.1
    rw [memB_nil, memB_cons] at this
    have h3 : hasB t t.1 = true := (hasB_iff _ _).2 ⟨Nat.le_refl _, h2.2.1⟩
    rw [h3] at this; cases this
  | s :: l, [], _, h1, _, h => by
    have := h s.1
    rw [memB_nil, memB_cons] at this
    have h3 : hasB s s.1 = true := (hasB_iff _ _).2 ⟨Nat.le_refl _, h1.2.1⟩
    rw [h3] at this; cases this
  | s :: l, t :: m, k, h1, h2, h => by
    obtain ⟨a1, a2, a3, a4⟩ := h1
    obtain ⟨b1, b2, b3, b4⟩ := h2
    have inl : ∀ i, memB (s :: l) i = true ↔ (s.1 ≤ i ∧ i ≤ s.2) ∨ memB l i = true := fun i => by rw [memB_cons, Bool.or_eq_true, hasB_iff]
    have inm : ∀ i, memB (t :: m) i = true ↔ (t.1 ≤ i ∧ i ≤ t.2) ∨ memB m i = true := fun i => by rw [memB_cons, Bool.or_eq_true, hasB_iff]
    have e : ∀ i, (s.1 ≤ i ∧ i ≤ s.2) ∨ memB l i = true ↔ (t.1 ≤ i ∧ i ≤ t.2) ∨ memB m i = true := fun i => by rw [← inl, ← inm, h i]
    have fl : ∀ i, memB l i = true → s.2 + 2 ≤ i := fun i hi => (a4.from hi).1
    have fm : ∀ i, memB m i = true → t.2 + 2 ≤ i := fun i hi => (b4.from hi).1
    have e1 : s.1 = t.1 := by
      have x := (e s.1).1 (.inl ⟨Nat.le_refl _, a2⟩)
      have y := (e t.1).2 (.inl ⟨Nat.le_refl _, b2⟩)
      have x' : t.1 ≤ s.1 := by rcases x with x | x
                                · exact x.1
                                · have := fm _ x; omega
      have y' : s.1 ≤ t.1 := by rcases y with y | y
                                · exact y.1
                                · have := fl _ y; omega
      omega
    have e2 : s.2 = t.2 := by
      rcases Nat.lt_trichotomy s.2 t.2 with c | c | c
      · have x := (e (s.2 + 1)).2 (.inl ⟨by omega, by omega⟩)
        rcases x with x | x
        · omega
        · have := fl _ x; omega
      · exact c
      · have x := (e (t.2 + 1)).1 (.inl ⟨by omega, by omega⟩)
        rcases x with x | x
        · omega
        · have := fm _ x; omega
    have e3 : s = t := Prod.ext e1 e2
    subst e3
    have e4 : ∀ i, memB l i = memB m i := fun i => by
      rw [Bool.eq_iff_iff]
      constructor
      · intro hi
        have := fl i hi
        rcases (e i).1 (.inr hi) with x | x
        · omega
        · exact x
      · intro hi
        have := fm i hi
        rcases (e i).2 (.inr hi) with x | x
        · omega
        · exact x
    rw [canon_uniq a4 b4 e4]

theorem canon_snoc : ∀ {l : List (Nat × Nat)} {k : Nat} (s : Nat × Nat), Canon k (l ++ [s]) ↔ Canon k l ∧ (∀ t ∈ l, t.2 + 2 ≤ s.1) ∧ k ≤ s.1 ∧ s.1 ≤ s.2 ∧ s.2 < 65536
  | [], k, s => by simp [Canon]
  | t :: l, k, s => by
    have ih := canon_snoc (l := l) (k := t.2 + 2) s
    simp only [List.cons_append, Canon, ih, List.mem_cons, forall_eq_or_imp]
    constructor
    · rintro ⟨h1, h2, h3, h4, h5, h6, h7, h8⟩; exact ⟨⟨h1, h2, h3, h4⟩, ⟨h6, h5⟩, by omega, h7, h8⟩
    · rintro ⟨⟨h1, h2, h3, h4⟩, ⟨h6, h5⟩, _, h7, h8⟩; exact ⟨h1, h2, h3, h4, h5, h6, h7, h8⟩
/-- Of a rising list's spans the last ends last. -/
theorem canon_last {l : List (Nat × Nat)} {k : Nat} {s : Nat × Nat} (h : Canon k (l ++ [s])) : ∀ t ∈ l ++ [s], t.2 ≤ s.2 ∧ t.1 ≤ s.1 := by
  have h' := (canon_snoc s).1 h
  intro t ht
  rcases List.mem_append.1 ht with ht | ht
  · have := h'.2.1 t ht
    have := (h'.1.each) t ht
    omega
  · have : t = s := by simpa using ht
    subst this; omega

/-- The spans of the ports below n that p holds. -/
def spansU (p : Nat → Bool) : Nat → List (Nat × Nat)
  | 0 => []
  | n + 1 => if p n then (if 0 < n ∧ p (n - 1) = true then (match (spansU p n).getLast? with | some t => (spansU p n).dropLast ++ [(t.1, n)] | none => [(n, n)]) else spansU p n ++ [(n, n)]) else spansU p n
theorem spansU_is (p : Nat → Bool) : ∀ n, n ≤ 65536 → Canon 0 (spansU p n) ∧ (∀ i, memB (spansU p n) i = (decide (i < n) && p i)) ∧ (∀ j, n = j + 1 → p j = true → ∃ f t, spansU p n = f ++ [t] ∧ t.2 = j) ∧ (∀ t ∈ spansU p n, t.2 < n) := by
  intro n
  induction n with
  | zero => intro _; exact ⟨trivial, fun i => by simp [spansU, memB_nil], fun j h => by omega, fun t h => by simp [spansU] at h⟩
  | succ n ih =>
    intro hn
    obtain ⟨i1, i2, i3, i4⟩ := ih (by omega)
    unfold spansU
    by_cases hp : p n = true
    · rw [if_pos hp]
      by_cases h0 : 0 < n ∧ p (n - 1) = true
      · rw [if_pos h0]
        obtain ⟨f, t, e, ht⟩ := i3 (n - 1) (by omega) h0.2
        have e' : (spansU p n).getLast? = some t := by rw [e]; simp
        rw [e', e]
        simp only [List.dropLast_concat]
        rw [e] at i1 i2 i4
        have c := (canon_snoc t).1 i1
        refine ⟨(canon_snoc _).2 ⟨c.1, c.2.1, c.2.2.1, ?_, ?_⟩, fun i => ?_, fun j hj hpj => ⟨f, _, rfl, by show n = j; omega⟩, fun s hs => ?_⟩
        · show t.1 ≤ n; omega
        · show n < 65536; omega
        · have := i2 i
          rw [memB_append, memB_cons, memB_nil, Bool.or_false] at this ⊢
          rw [Bool.eq_iff_iff] at this ⊢
          simp only [Bool.or_eq_true, hasB_iff, Bool.and_eq_true, decide_eq_true_eq] at this ⊢
          by_cases hi : i = n
          · subst hi
            simp only [hp, and_true]
            constructor
            · intro _; omega
            · intro _; right; show t.1 ≤ i ∧ i ≤ i; omega
          · rw [show (i < n + 1) = (i < n) from propext ⟨by omega, by omega⟩, ← this]
            constructor
            · rintro (h | h)
              · exact .inl h
              · right; have h' : t.1 ≤ i ∧ i ≤ n := h; omega
            · rintro (h | h)
              · exact .inl h
              · right; show t.1 ≤ i ∧ i ≤ n; omega
        · rcases List.mem_append.1 hs with hs | hs
          · have := i4 s (List.mem_append_left _ hs); omega
          · have : s = (t.1, n) := by simpa using hs
            subst this; show n < n + 1; omega
      · rw [if_neg h0]
        have hend : ∀ t ∈ spansU p n, t.2 + 2 ≤ n := by
          intro t ht
          have h1 := i4 t ht
          have h2 := i1.each t ht
          rcases Nat.lt_or_ge (t.2 + 1) n with c | c
          · omega
          · exfalso
            have h3 : memB (spansU p n) t.2 = true := (memB_iff _ _).2 ⟨t, ht, by omega, by omega⟩
            rw [i2] at h3
            have h4 : p t.2 = true := by simp at h3; exact h3.2
            exact h0 ⟨by omega, by rw [show n - 1 = t.2 by omega]; exact h4⟩
        refine ⟨(canon_snoc _).2 ⟨i1, hend, Nat.zero_le _, Nat.le_refl _, by show n < 65536; omega⟩, fun i => ?_, fun j hj _ => ⟨_, _, rfl, by show n = j; omega⟩, fun s hs => ?_⟩
        · rw [memB_append, memB_cons, memB_nil, Bool.or_false, i2]
          rw [Bool.eq_iff_iff]
          simp only [Bool.or_eq_true, hasB_iff, Bool.and_eq_true, decide_eq_true_eq]
          constructor
          · rintro (h | h)
            · exact ⟨by omega, h.2⟩
            · have h' : n ≤ i ∧ i ≤ n := h
              obtain rfl : i = n := by omega
              exact ⟨by omega, hp⟩
          · rintro ⟨h1, h2⟩
            by_cases hi : i = n
            · right; show n ≤ i ∧ i ≤ n; omega
            · left; exact ⟨by omega, h2⟩
        · rcases List.mem_append.1 hs with hs | hs
          · have := i4 s hs; omega
          · have : s = (n, n) := by simpa using hs
            subst this; show n < n + 1; omega
    · rw [if_neg hp]
      refine ⟨i1, fun i => ?_, fun j hj hpj => ?_, fun t ht => by have := i4 t ht; omega⟩
      · rw [i2, Bool.eq_iff_iff]
        simp only [Bool.and_eq_true, decide_eq_true_eq]
        constructor
        · rintro ⟨h1, h2⟩; exact ⟨by omega, h2⟩
        · rintro ⟨h1, h2⟩
          refine ⟨?_, h2⟩
          rcases Nat.lt_or_ge i n with c | c
          · exact c
          · exact absurd (by rw [show n = i by omega]; exact h2) hp
      · obtain rfl : n = j := by omega
        exact absurd hpj hp

/-- A set of ports, as spans. -/
def canonOf (p : Nat → Bool) : List (Nat × Nat) := spansU p 65536
theorem canonOf_canon (p : Nat → Bool) : Canon 0 (canonOf p) := (spansU_is p 65536 (Nat.le_refl _)).1
theorem canonOf_mem (p : Nat → Bool) (i : Nat) : memB (canonOf p) i = (decide (i < 65536) && p i) := (spansU_is p 65536 (Nat.le_refl _)).2.1 i
theorem eq_canonOf {l : List (Nat × Nat)} {p : Nat → Bool} (h : Canon 0 l) (hm : ∀ i, i < 65536 → memB l i = p i) : l = canonOf p := by
  refine canon_uniq h (canonOf_canon p) fun i => ?_
  rw [canonOf_mem]
  by_cases hi : i < 65536
  · rw [hm i hi]; simp [hi]
  · rw [show decide (i < 65536) = false from decide_eq_false hi, Bool.false_and]
    cases hc : memB l i with
    | false => rfl
    | true => exact absurd (h.from hc).2 hi
theorem canonOf_congr {p q : Nat → Bool} (h : ∀ i, i < 65536 → p i = q i) : canonOf p = canonOf q :=
  eq_canonOf (canonOf_canon p) fun i hi => by rw [canonOf_mem, h i hi]; simp [hi]

/-- How many ports below n. -/
def cnt (p : Nat → Bool) : Nat → Nat
  | 0 => 0
  | n + 1 => cnt p n + (if p n then 1 else 0)
def total (l : List (Nat × Nat)) : Nat := (l.map fun s => s.2 + 1 - s.1).sum
theorem total_nil : total [] = 0 := rfl
theorem total_append (l m : List (Nat × Nat)) : total (l ++ m) = total l + total m := by simp [total, List.sum_append]
theorem total_one (s : Nat × Nat) : total [s] = s.2 + 1 - s.1 := by simp [total]
theorem total_spansU (p : Nat → Bool) : ∀ n, n ≤ 65536 → total (spansU p n) = cnt p n := by
  intro n
  induction n with
  | zero => intro _; rfl
  | succ n ih =>
    intro hn
    have ih := ih (by omega)
    obtain ⟨i1, i2, i3, i4⟩ := spansU_is p n (by omega)
    unfold spansU cnt
    by_cases hp : p n = true
    · rw [if_pos hp, if_pos hp]
      by_cases h0 : 0 < n ∧ p (n - 1) = true
      · rw [if_pos h0]
        obtain ⟨f, t, e, ht⟩ := i3 (n - 1) (by omega) h0.2
        have e' : (spansU p n).getLast? = some t := by rw [e]; simp
        rw [e', ← ih, e]
        simp only [List.dropLast_concat]
        rw [e] at i1
        have c := (canon_snoc t).1 i1
        rw [total_append, total_append, total_one, total_one]
        show total f + (n + 1 - t.1) = _
        omega
      · rw [if_neg h0, total_append, total_one, ih]
        show cnt p n + (n + 1 - n) = _
        omega
    · rw [if_neg hp, if_neg hp, ih, Nat.add_zero]
theorem total_canonOf (p : Nat → Bool) : total (canonOf p) = cnt p 65536 := total_spansU p 65536 (Nat.le_refl _)
theorem cnt_le (p : Nat → Bool) : ∀ n, cnt p n ≤ n
  | 0 => Nat.le_refl _
  | n + 1 => by have := cnt_le p n; unfold cnt; split <;> omega
theorem cnt_split (p q : Nat → Bool) : ∀ n, cnt (fun i => p i && q i) n + cnt (fun i => p i && !q i) n = cnt p n
  | 0 => rfl
  | n + 1 => by
    have := cnt_split p q n
    unfold cnt
    cases p n <;> cases q n <;> simp <;> omega
theorem cnt_not (p : Nat → Bool) : ∀ n, cnt p n + cnt (fun i => !p i) n = n
  | 0 => rfl
  | n + 1 => by
    have := cnt_not p n
    unfold cnt
    cases p n <;> simp <;> omega
theorem cnt_congr {p q : Nat → Bool} : ∀ n, (∀ i, i < n → p i = q i) → cnt p n = cnt q n
  | 0, _ => rfl
  | n + 1, h => by unfold cnt; rw [cnt_congr n (fun i hi => h i (by omega)), h n (by omega)]
theorem cnt_has (s : Nat × Nat) : ∀ n, cnt (hasB s) n = min n (s.2 + 1) - s.1
  | 0 => by simp [cnt]
  | n + 1 => by
    have := cnt_has s n
    unfold cnt
    rw [this]
    by_cases h : hasB s n = true
    · rw [if_pos h]; rw [hasB_iff] at h; omega
    · rw [if_neg h]; rw [hasB_iff] at h; omega
theorem length_le_total {l : List (Nat × Nat)} {k : Nat} (h : Canon k l) : l.length ≤ total l := by
  induction l generalizing k with
  | nil => exact Nat.zero_le _
  | cons s l ih =>
    have := ih h.2.2.2
    have h2 := h.2.1
    rw [show s :: l = [s] ++ l from rfl, total_append, total_one]
    simp only [List.singleton_append, List.length_cons]
    omega
theorem length_canonOf (p : Nat → Bool) : (canonOf p).length ≤ 65536 := by
  have h1 := length_le_total (canonOf_canon p)
  rw [total_canonOf] at h1
  have := cnt_le p 65536
  omega
/-- How many of the spans hold a port. -/
def hits (l : List (Nat × Nat)) (i : Nat) : Nat := (l.map fun s => if hasB s i then 1 else 0).sum
theorem hits_nil (i : Nat) : hits [] i = 0 := rfl
theorem hits_append (l m : List (Nat × Nat)) (i : Nat) : hits (l ++ m) i = hits l i + hits m i := by simp [hits, List.sum_append]
theorem hits_one (s : Nat × Nat) (i : Nat) : hits [s] i = if hasB s i then 1 else 0 := by simp [hits]
theorem hits_canon {l : List (Nat × Nat)} {k : Nat} (h : Canon k l) (i : Nat) : hits l i = if memB l i then 1 else 0 := by
  induction l generalizing k with
  | nil => rfl
  | cons s l ih =>
    have ih := ih h.2.2.2
    rw [show s :: l = [s] ++ l from rfl, hits_append, hits_one, ih]
    rw [List.singleton_append, memB_cons]
    by_cases hs : hasB s i = true
    · have : memB l i = false := by
        cases hm : memB l i with
        | false => rfl
        | true => have := (h.2.2.2.from hm).1; rw [hasB_iff] at hs; omega
      rw [this]; simp [hs]
    · simp [hs]
end Go.Proofs.Ytcjpjofoddpfhaa.Xp
