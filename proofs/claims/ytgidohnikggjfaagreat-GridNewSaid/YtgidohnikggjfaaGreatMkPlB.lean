/-
  Plain arithmetic on bytes: what is left of one mask without another, the hull of some bytes, how many bytes a mask holds. No program is named here.
-/
import Derived.Test.YtgidohnikggjfaaGreatMkPlain
import Derived.Lib.BitFns
namespace Go.Proofs.YtgidohnikggjfaaGreat
open Go.RowKit
set_option linter.unusedVariables false
set_option linter.unusedSimpArgs false

/-- Is the bit i one that b cares for and a does not? -/
def cut (c d i : Nat) : Bool := decide (tb d i = 1 ∧ tb c i = 0)
/-- What is left over at the bit i, and the piece told there. -/
def rv (v x i : Nat) : Nat := v ||| hi x i
def piece (v c x d i : Nat) : Nat × Nat := (rv v x i ||| (1 - tb x i) * 2 ^ (7 - i), rv c d (i + 1))
def lessN (v c x d : Nat) : Nat → List (Nat × Nat)
  | 0 => []
  | n + 1 => if cut c d n = true then lessN v c x d n ++ [piece v c x d n] else lessN v c x d n
def lessM (v c x d : Nat) : List (Nat × Nat) := if okM v c && okM x d then (if apM v c x d then [(v, c)] else lessN v c x d 8) else []
theorem lessM_bad {v c x d : Nat} (h : (okM v c && okM x d) = false) : lessM v c x d = [] := by unfold lessM; rw [h]; rfl
theorem lessM_ap {v c x d : Nat} (h1 : okM v c = true) (h2 : okM x d = true) (ha : apM v c x d = true) : lessM v c x d = [(v, c)] := by unfold lessM; rw [h1, h2, ha]; rfl
theorem lessM_in {v c x d : Nat} (h1 : okM v c = true) (h2 : okM x d = true) (ha : apM v c x d = false) : lessM v c x d = lessN v c x d 8 := by unfold lessM; rw [h1, h2, ha]; rfl
theorem lessN_le (v c x d : Nat) : ∀ n, (lessN v c x d n).length ≤ n
  | 0 => Nat.le_refl _
  | n + 1 => by
    have := lessN_le v c x d n
    unfold lessN
    split
    · rw [List.length_append]; simp; omega
    · omega
theorem lessM_le (v c x d : Nat) : (lessM v c x d).length ≤ 8 := by
  unfold lessM
  split
  · split
    · simp
    · exact lessN_le v c x d 8
  · simp
theorem rv_lt {v x : Nat} (hv : v < 256) (hx : x < 256) (i : Nat) : rv v x i < 256 := or_lt hv (hi_lt hx i)
theorem rv_zero {v x : Nat} (hx : x < 256) : rv v x 0 = v := by unfold rv; rw [hi_zero hx, Nat.or_zero]
theorem rv_test (v x i j : Nat) : (rv v x i).testBit j = (v.testBit j || (decide (8 - i ≤ j) && x.testBit j)) := by
  unfold rv; rw [Nat.testBit_or, hi_test]
theorem rv_succ_test (v x i j : Nat) (h : i < 8) : (rv v x (i + 1)).testBit j = ((rv v x i).testBit j || (decide (7 - i = j) && x.testBit (7 - i))) := by
  unfold rv; rw [Nat.testBit_or, Nat.testBit_or, hi_succ_test _ _ _ h, Bool.or_assoc]
/-- The bit is there already, or the byte has it not: nothing changes. -/
theorem rv_stay {v x i : Nat} (h : i < 8) (hs : x.testBit (7 - i) = true → v.testBit (7 - i) = true) : rv v x (i + 1) = rv v x i := by
  apply Nat.eq_of_testBit_eq
  intro j
  rw [rv_succ_test _ _ _ _ h]
  by_cases hj : 7 - i = j
  · subst hj
    rw [rv_test]
    revert hs
    cases x.testBit (7 - i) <;> cases v.testBit (7 - i) <;> simp
  · simp [hj]
theorem rv_set {v x i : Nat} (h : i < 8) (hs : x.testBit (7 - i) = true) : rv v x (i + 1) = rv v x i ||| 2 ^ (7 - i) := by
  apply Nat.eq_of_testBit_eq
  intro j
  rw [rv_succ_test _ _ _ _ h, Nat.testBit_or, Nat.testBit_two_pow, hs, Bool.and_true]
theorem rv_clear {v x i : Nat} (h : i < 8) (hs : v.testBit (7 - i) = false) : tb (rv v x i) i = 0 := by
  rw [tb_zero, rv_test, hs, decide_eq_false (by omega)]; rfl
theorem cut_iff (c d i : Nat) : cut c d i = true ↔ (d.testBit (7 - i) = true ∧ c.testBit (7 - i) = false) := by
  unfold cut; rw [decide_eq_true_eq, tb_one, tb_zero]
theorem piece_lt {v c x d i : Nat} (hv : v < 256) (hc : c < 256) (hx : x < 256) (hd : d < 256) (h : i < 8) : (piece v c x d i).1 < 256 ∧ (piece v c x d i).2 < 256 := by
  refine ⟨or_lt (rv_lt hv hx i) ?_, rv_lt hc hd _⟩
  have h1 := tb_lt x i
  have h2 := two_lt (7 - i) (by omega)
  obtain e | e : tb x i = 0 ∨ tb x i = 1 := by omega
  · rw [e]; omega
  · rw [e]; omega
theorem lessN_lt {v c x d : Nat} (hv : v < 256) (hc : c < 256) (hx : x < 256) (hd : d < 256) : ∀ n, n ≤ 8 → ∀ m ∈ lessN v c x d n, m.1 < 256 ∧ m.2 < 256
  | 0, _ => by intro m hm; cases hm
  | n + 1, h => by
    have ih := lessN_lt hv hc hx hd n (by omega)
    unfold lessN
    split
    · intro m hm
      rw [List.mem_append, List.mem_singleton] at hm
      rcases hm with hm | rfl
      · exact ih m hm
      · exact piece_lt hv hc hx hd (by omega)
    · exact ih
theorem lessM_lt {v c x d : Nat} (hv : v < 256) (hc : c < 256) (hx : x < 256) (hd : d < 256) : ∀ m ∈ lessM v c x d, m.1 < 256 ∧ m.2 < 256 := by
  unfold lessM
  split
  · split
    · intro m hm; rw [List.mem_singleton] at hm; subst hm; exact ⟨hv, hc⟩
    · exact lessN_lt hv hc hx hd 8 (Nat.le_refl _)
  · intro m hm; cases hm

/-- The piece at the bit i, bit by bit. -/
theorem piece_test {v c x d i : Nat} (j : Nat) (h : i < 8) : (piece v c x d i).1.testBit j = (v.testBit j || (decide (8 - i ≤ j) && x.testBit j) || (decide (7 - i = j) && !x.testBit j))
    ∧ (piece v c x d i).2.testBit j = (c.testBit j || (decide (7 - i ≤ j) && d.testBit j)) := by
  constructor
  · show ((rv v x i ||| (1 - tb x i) * 2 ^ (7 - i))).testBit j = _
    rw [Nat.testBit_or, rv_test]
    congr 1
    have h1 := tb_lt x i
    by_cases hj : 7 - i = j
    · subst hj
      cases hx : x.testBit (7 - i)
      · rw [(tb_zero x i).2 hx]; simp
      · rw [(tb_one x i).2 hx]; simp
    · obtain e | e : tb x i = 0 ∨ tb x i = 1 := by omega
      · rw [e]; simp [hj]
      · rw [e]; simp [hj]
  · show (rv c d (i + 1)).testBit j = _
    rw [rv_test, show 8 - (i + 1) = 7 - i by omega]
theorem piece_ok {v c x d i : Nat} (h : i < 8) (h1 : okM v c = true) (h2 : okM x d = true) (hk : cut c d i = true) : okM (piece v c x d i).1 (piece v c x d i).2 = true := by
  rw [okM_iff] at h1 h2 ⊢
  rw [cut_iff] at hk
  intro j
  rw [(piece_test j h).1, (piece_test j h).2]
  have a1 := h1 j; have a2 := h2 j
  by_cases hj : 7 - i = j
  · subst hj
    rw [hk.1, hk.2]
    simp
  · by_cases hl : 8 - i ≤ j
    · rw [decide_eq_true hl, decide_eq_false hj, decide_eq_true (show 7 - i ≤ j by omega)]
      revert a1 a2
      cases v.testBit j <;> cases c.testBit j <;> cases x.testBit j <;> cases d.testBit j <;> simp
    · rw [decide_eq_false hl, decide_eq_false hj, decide_eq_false (show ¬ 7 - i ≤ j by omega)]
      revert a1
      cases v.testBit j <;> cases c.testBit j <;> simp
theorem piece_apart {v c x d i : Nat} (h : i < 8) (h1 : okM v c = true) (hk : cut c d i = true) : apM (piece v c x d i).1 (piece v c x d i).2 x d = true := by
  rw [okM_iff] at h1
  rw [cut_iff] at hk
  cases ha : apM (piece v c x d i).1 (piece v c x d i).2 x d
  · rw [apM_iff] at ha
    have a1 := ha (7 - i)
    rw [(piece_test (7 - i) h).1, (piece_test (7 - i) h).2] at a1
    have a2 := h1 (7 - i)
    have e1 : decide (8 - i ≤ 7 - i) = false := decide_eq_false (by omega)
    rw [hk.1, hk.2, e1, decide_eq_true (Nat.le_refl _), decide_eq_true rfl] at a1
    have a3 := a1 rfl rfl
    rw [hk.2] at a2
    revert a2 a3
    cases v.testBit (7 - i) <;> cases x.testBit (7 - i) <;> simp
  · rfl
theorem piece_within {v c x d i : Nat} (h : i < 8) (h1 : okM v c = true) (h2 : okM x d = true) (ha : apM v c x d = false) (hk : cut c d i = true) :
    wiM (piece v c x d i).1 (piece v c x d i).2 v c = true := by
  have hp := piece_ok h h1 h2 hk
  have o1 := (okM_iff v c).1 h1
  have o2 := (okM_iff x d).1 h2
  rw [apM_iff] at ha
  rw [cut_iff] at hk
  have e1 : apM (piece v c x d i).1 (piece v c x d i).2 v c = false := by
    rw [apM_iff]
    intro j hj hc
    rw [(piece_test j h).1]
    have a1 := o1 j; have a2 := o2 j; have a3 := ha j hc
    by_cases h7 : 7 - i = j
    · subst h7; rw [hk.2] at hc; cases hc
    · rw [decide_eq_false h7]
      revert a2 a3
      cases decide (8 - i ≤ j) <;> cases v.testBit j <;> cases x.testBit j <;> cases d.testBit j <;> simp
  have e2 : (piece v c x d i).1 ||| v = (piece v c x d i).1 := by
    rw [or_self_iff]
    intro j hj
    rw [(piece_test j h).1, hj]; simp
  have e3 : (piece v c x d i).2 ||| c = (piece v c x d i).2 := by
    rw [or_self_iff]
    intro j hj
    rw [(piece_test j h).2, hj]; simp
  unfold wiM
  rw [hp, h1, e1, decide_eq_true ⟨e2, e3⟩]
  rfl
/-- Has p, of the bits that b cares for and a does not, b's in the first n? -/
def agr (c x d p n : Nat) : Prop := ∀ j, j < n → cut c d j = true → tb p j = tb x j
theorem piece_has {v c x d i : Nat} (p : Nat) (h : i < 8) (h1 : okM v c = true) (h2 : okM x d = true) (ha : apM v c x d = false) (hc8 : c < 256) (hv8 : v < 256) (hd8 : d < 256) (hx8 : x < 256) (hk : cut c d i = true) :
    hasM (piece v c x d i).1 (piece v c x d i).2 p = true ↔ (hasM v c p = true ∧ agr c x d p i ∧ tb p i ≠ tb x i) := by
  have o1 := (okM_iff v c).1 h1
  have o2 := (okM_iff x d).1 h2
  rw [apM_iff] at ha
  rw [hasM_iff, hasM_iff]
  have hk' := (cut_iff c d i).1 hk
  constructor
  · intro hh
    have key : ∀ j, (p.testBit j && (c.testBit j || (decide (7 - i ≤ j) && d.testBit j))) = (v.testBit j || (decide (8 - i ≤ j) && x.testBit j) || (decide (7 - i = j) && !x.testBit j)) := by
      intro j; have := hh j; rw [(piece_test j h).1, (piece_test j h).2] at this; exact this
    refine ⟨fun j => ?_, fun j hj hcj => ?_, ?_⟩
    · have a1 := key j; have a2 := o1 j; have a3 := ha j; have a4 := o2 j
      by_cases h7 : 7 - i = j
      · subst h7
        rw [hk'.2] at a2 ⊢
        revert a2
        cases v.testBit (7 - i) <;> simp
      · rw [decide_eq_false h7] at a1
        by_cases h8 : 8 - i ≤ j
        · rw [decide_eq_true h8, decide_eq_true (show 7 - i ≤ j by omega)] at a1
          revert a1 a2 a3 a4
          cases v.testBit j <;> cases c.testBit j <;> cases x.testBit j <;> cases d.testBit j <;> cases p.testBit j <;> simp
        · rw [decide_eq_false h8, decide_eq_false (show ¬ 7 - i ≤ j by omega)] at a1
          revert a1 a2
          cases v.testBit j <;> cases c.testBit j <;> cases p.testBit j <;> simp
    · rw [tb_same]
      rw [cut_iff] at hcj
      have a1 := key (7 - j); have a2 := o1 (7 - j)
      rw [decide_eq_true (show 7 - i ≤ 7 - j by omega), decide_eq_true (show 8 - i ≤ 7 - j by omega), decide_eq_false (show ¬ 7 - i = 7 - j by omega), hcj.1, hcj.2] at a1
      rw [hcj.2] at a2
      revert a1 a2
      cases v.testBit (7 - j) <;> cases x.testBit (7 - j) <;> cases p.testBit (7 - j) <;> simp
    · rw [Ne, tb_same]
      have a1 := key (7 - i); have a2 := o1 (7 - i)
      rw [decide_eq_true (Nat.le_refl _), decide_eq_false (show ¬ 8 - i ≤ 7 - i by omega), decide_eq_true rfl, hk'.1, hk'.2] at a1
      rw [hk'.2] at a2
      revert a1 a2
      cases v.testBit (7 - i) <;> cases x.testBit (7 - i) <;> cases p.testBit (7 - i) <;> simp
  · rintro ⟨k1, k2, k3⟩ j
    rw [(piece_test j h).1, (piece_test j h).2]
    have a1 := k1 j; have a2 := o1 j; have a3 := ha j; have a4 := o2 j
    by_cases h7 : 7 - i = j
    · subst h7
      rw [Ne, tb_same] at k3
      rw [decide_eq_true (Nat.le_refl _), decide_eq_false (show ¬ 8 - i ≤ 7 - i by omega), decide_eq_true rfl, hk'.1, hk'.2]
      rw [hk'.2] at a1
      revert a1 k3
      cases v.testBit (7 - i) <;> cases x.testBit (7 - i) <;> cases p.testBit (7 - i) <;> simp
    · rw [decide_eq_false h7]
      by_cases h8 : 8 - i ≤ j
      · rw [decide_eq_true h8, decide_eq_true (show 7 - i ≤ j by omega)]
        by_cases hj8 : j < 8
        · have a5 := k2 (7 - j) (by omega)
          rw [cut_iff, tb_same, show 7 - (7 - j) = j by omega] at a5
          revert a1 a2 a3 a4 a5
          cases v.testBit j <;> cases c.testBit j <;> cases x.testBit j <;> cases d.testBit j <;> cases p.testBit j <;> simp
        · rw [test_ge hc8 (by omega), test_ge hv8 (by omega), test_ge hd8 (by omega), test_ge hx8 (by omega)]; simp
      · rw [decide_eq_false h8, decide_eq_false (show ¬ 7 - i ≤ j by omega)]
        revert a1
        cases v.testBit j <;> cases c.testBit j <;> cases p.testBit j <;> simp
/-- How many of some masks hold p. -/
def cnt (p : Nat) (l : List (Nat × Nat)) : Nat := l.countP (fun m => hasM m.1 m.2 p)
theorem cnt_append (p : Nat) (l k : List (Nat × Nat)) : cnt p (l ++ k) = cnt p l + cnt p k := List.countP_append
theorem cnt_one (p : Nat) (m : Nat × Nat) : cnt p [m] = if hasM m.1 m.2 p = true then 1 else 0 := by
  unfold cnt; rw [List.countP_cons, List.countP_nil]; simp
open Classical in
theorem cnt_lessN {v c x d p : Nat} (h1 : okM v c = true) (h2 : okM x d = true) (ha : apM v c x d = false) (hc8 : c < 256) (hv8 : v < 256) (hd8 : d < 256) (hx8 : x < 256) :
    ∀ n, n ≤ 8 → cnt p (lessN v c x d n) = if hasM v c p = true ∧ ¬ agr c x d p n then 1 else 0
  | 0, _ => by rw [if_neg]; · rfl
               · rintro ⟨_, h⟩; exact h fun j hj => by omega
  | n + 1, h => by
    have ih := cnt_lessN h1 h2 ha hc8 hv8 hd8 hx8 n (by omega) (p := p)
    unfold lessN
    by_cases hk : cut c d n = true
    · rw [if_pos hk, cnt_append, ih, cnt_one]
      have hp := piece_has p (show n < 8 by omega) h1 h2 ha hc8 hv8 hd8 hx8 hk
      have hs : agr c x d p (n + 1) ↔ agr c x d p n ∧ tb p n = tb x n := by
        constructor
        · intro hh; exact ⟨fun j hj => hh j (by omega), hh n (by omega) hk⟩
        · rintro ⟨hh, ht⟩ j hj hcj
          by_cases e : j = n
          · subst e; exact ht
          · exact hh j (by omega) hcj
      by_cases q1 : hasM v c p = true
      · by_cases q2 : agr c x d p n
        · by_cases q3 : tb p n = tb x n
          · rw [if_neg (by rintro ⟨_, h⟩; exact h q2), if_neg (by rw [hp]; rintro ⟨_, _, h⟩; exact h q3), if_neg (by rintro ⟨_, h⟩; exact h (hs.2 ⟨q2, q3⟩))]
          · rw [if_neg (by rintro ⟨_, h⟩; exact h q2), if_pos (hp.2 ⟨q1, q2, q3⟩), if_pos ⟨q1, fun h => q3 (hs.1 h).2⟩]
        · rw [if_pos ⟨q1, q2⟩, if_neg (by rw [hp]; rintro ⟨_, h, _⟩; exact q2 h), if_pos ⟨q1, fun h => q2 (hs.1 h).1⟩]
      · rw [if_neg (by rintro ⟨h, _⟩; exact q1 h), if_neg (by rw [hp]; rintro ⟨h, _⟩; exact q1 h), if_neg (by rintro ⟨h, _⟩; exact q1 h)]
    · rw [if_neg hk, ih]
      have hs : agr c x d p (n + 1) ↔ agr c x d p n := by
        constructor
        · intro hh j hj; exact hh j (by omega)
        · intro hh j hj hcj
          by_cases e : j = n
          · subst e; exact absurd hcj hk
          · exact hh j (by omega) hcj
      simp only [hs]
theorem agr_all {v c x d p : Nat} (h1 : okM v c = true) (h2 : okM x d = true) (ha : apM v c x d = false) (hd8 : d < 256) (hx8 : x < 256) (hp : hasM v c p = true) : agr c x d p 8 ↔ hasM x d p = true := by
  have o1 := (okM_iff v c).1 h1
  have o2 := (okM_iff x d).1 h2
  rw [apM_iff] at ha
  rw [hasM_iff] at hp ⊢
  constructor
  · intro hh i
    have a1 := hp i; have a2 := o1 i; have a3 := ha i; have a4 := o2 i
    by_cases h8 : i < 8
    · have a5 := hh (7 - i) (by omega)
      rw [cut_iff, tb_same, show 7 - (7 - i) = i by omega] at a5
      revert a1 a2 a3 a4 a5
      cases v.testBit i <;> cases c.testBit i <;> cases x.testBit i <;> cases d.testBit i <;> cases p.testBit i <;> simp
    · rw [test_ge hd8 (by omega), test_ge hx8 (by omega), Bool.and_false]
  · intro hh j hj hcj
    rw [cut_iff] at hcj
    rw [tb_same]
    have a1 := hh (7 - j)
    rw [hcj.1, Bool.and_true] at a1
    exact a1
/-- Each byte of a is held by one piece alone, or by b. -/
theorem cnt_lessM {v c x d p : Nat} (h1 : okM v c = true) (h2 : okM x d = true) (hc8 : c < 256) (hv8 : v < 256) (hd8 : d < 256) (hx8 : x < 256) :
    cnt p (lessM v c x d) = if (hasM v c p && !hasM x d p) = true then 1 else 0 := by
  cases ha : apM v c x d
  · rw [lessM_in h1 h2 ha, cnt_lessN h1 h2 ha hc8 hv8 hd8 hx8 8 (Nat.le_refl _)]
    by_cases q1 : hasM v c p = true
    · have hs := agr_all h1 h2 ha hd8 hx8 q1
      cases q2 : hasM x d p
      · rw [if_pos ⟨q1, by rw [hs, q2]; simp⟩, if_pos (by rw [q1]; rfl)]
      · rw [if_neg (by rintro ⟨_, h⟩; exact h (hs.2 q2)), if_neg (by simp)]
    · rw [if_neg (by rintro ⟨h, _⟩; exact q1 h), if_neg (by rw [Bool.and_eq_true]; rintro ⟨h, _⟩; exact q1 h)]
  · rw [lessM_ap h1 h2 ha, cnt_one]
    have := apart_has (p := p) ha
    revert this
    cases hasM v c p <;> cases hasM x d p <;> simp
/-- Each piece may be, has nothing in common with b, and lies within a. -/
theorem lessM_each {v c x d : Nat} (h1 : okM v c = true) (h2 : okM x d = true) (m : Nat × Nat) (hm : m ∈ lessM v c x d) : okM m.1 m.2 = true ∧ apM m.1 m.2 x d = true ∧ wiM m.1 m.2 v c = true := by
  cases ha : apM v c x d
  · rw [lessM_in h1 h2 ha] at hm
    have key : ∀ n, n ≤ 8 → m ∈ lessN v c x d n → okM m.1 m.2 = true ∧ apM m.1 m.2 x d = true ∧ wiM m.1 m.2 v c = true := by
      intro n
      induction n with
      | zero => intro _ h; cases h
      | succ n ih =>
        intro hn h
        unfold lessN at h
        by_cases hk : cut c d n = true
        · rw [if_pos hk, List.mem_append, List.mem_singleton] at h
          rcases h with h | rfl
          · exact ih (by omega) h
          · exact ⟨piece_ok (by omega) h1 h2 hk, piece_apart (by omega) h1 hk, piece_within (by omega) h1 h2 ha hk⟩
        · rw [if_neg hk] at h; exact ih (by omega) h
    exact key 8 (Nat.le_refl _) hm
  · rw [lessM_ap h1 h2 ha, List.mem_singleton] at hm
    subst hm
    refine ⟨h1, ha, ?_⟩
    unfold wiM
    rw [h1, Nat.or_self, Nat.or_self]
    have : apM v c v c = false := by rw [apM_iff]; intros; rfl
    rw [this]; simp

/-- The bits in which some bytes are as the byte y. -/
def hullC (y : Nat) (l : List Nat) : Nat := l.foldl (fun al p => al &&& (255 - (p ^^^ y))) 255
theorem hullC_snoc (y : Nat) (l : List Nat) (p : Nat) : hullC y (l ++ [p]) = hullC y l &&& (255 - (p ^^^ y)) := by
  unfold hullC; rw [List.foldl_append]; rfl
theorem foldl_le (y : Nat) : ∀ (l : List Nat) (a : Nat), l.foldl (fun al p => al &&& (255 - (p ^^^ y))) a ≤ a
  | [], a => Nat.le_refl _
  | p :: l, a => Nat.le_trans (foldl_le y l _) Nat.and_le_left
theorem hullC_lt (y : Nat) (l : List Nat) : hullC y l < 256 := Nat.lt_of_le_of_lt (foldl_le y l 255) (by decide)
theorem foldl_test {y : Nat} (hy : y < 256) (i : Nat) (hi : i < 8) : ∀ (l : List Nat) (a : Nat), (∀ p ∈ l, p < 256) → ((l.foldl (fun al p => al &&& (255 - (p ^^^ y))) a).testBit i = true ↔ (a.testBit i = true ∧ ∀ p ∈ l, p.testBit i = y.testBit i))
  | [], a, _ => by simp
  | p :: l, a, h => by
    have hp := h p (by simp)
    rw [List.foldl_cons, foldl_test hy i hi l _ (fun q hq => h q (by simp [hq]))]
    rw [Nat.testBit_and, not8 (xor_lt hp hy), Nat.testBit_xor, decide_eq_true hi, Bool.true_and, Bool.and_eq_true]
    constructor
    · rintro ⟨⟨h1, h2⟩, h3⟩
      refine ⟨h1, fun q hq => ?_⟩
      rcases List.mem_cons.1 hq with rfl | hq
      · revert h2; cases q.testBit i <;> cases y.testBit i <;> simp
      · exact h3 q hq
    · rintro ⟨h1, h2⟩
      refine ⟨⟨h1, ?_⟩, fun q hq => h2 q (by simp [hq])⟩
      rw [h2 p (by simp)]
      cases y.testBit i <;> rfl
theorem hullC_test {y : Nat} (hy : y < 256) {l : List Nat} (hl : ∀ p ∈ l, p < 256) (i : Nat) (hi : i < 8) : (hullC y l).testBit i = true ↔ ∀ p ∈ l, p.testBit i = y.testBit i := by
  unfold hullC
  rw [foldl_test hy i hi l 255 hl]
  constructor
  · exact fun h => h.2
  · intro h
    refine ⟨?_, h⟩
    have := not8 (c := 0) (by decide) i
    simpa [hi] using this
theorem hullC_tb {y : Nat} (hy : y < 256) {l : List Nat} (hl : ∀ p ∈ l, p < 256) (i : Nat) (hi : i < 8) : tb (hullC y l) i = 1 ↔ ∀ p ∈ l, tb p i = tb y i := by
  rw [tb_one, hullC_test hy hl _ (by omega)]
  constructor
  · intro h p hp; rw [tb_same]; exact h p hp
  · intro h p hp; have := h p hp; rwa [tb_same] at this
theorem hull_ok (y a : Nat) : okM (y &&& a) a = true := by
  rw [okM_iff]; intro i; rw [Nat.testBit_and, Bool.and_eq_true]; exact fun h => h.2
theorem hull_has {y : Nat} (hy : y < 256) {l : List Nat} (hl : ∀ p ∈ l, p < 256) {p : Nat} (hp : p ∈ l) : hasM (y &&& hullC y l) (hullC y l) p = true := by
  rw [hasM_iff]
  intro i
  rw [Nat.testBit_and]
  by_cases h8 : i < 8
  · cases hc : (hullC y l).testBit i
    · simp
    · rw [(hullC_test hy hl i h8).1 hc p hp]
  · rw [test_ge (hullC_lt y l) (by omega)]; simp
theorem hull_least {y : Nat} (hy : y < 256) {l : List Nat} (hl : ∀ p ∈ l, p < 256) (hyl : y ∈ l) {v c : Nat} (hv : v < 256) (hc : c < 256) (h : ∀ p ∈ l, hasM v c p = true) : wiM (y &&& hullC y l) (hullC y l) v c = true := by
  have o := (okM_iff v c).1 (hasM_ok (h y hyl))
  have hh : ∀ p ∈ l, ∀ i, (p.testBit i && c.testBit i) = v.testBit i := fun p hp => (hasM_iff v c p).1 (h p hp)
  have key : ∀ i, c.testBit i = true → (hullC y l).testBit i = true := by
    intro i hi
    by_cases h8 : i < 8
    · rw [hullC_test hy hl i h8]
      intro p hp
      have a1 := hh p hp i
      have a2 := hh y hyl i
      rw [hi, Bool.and_true] at a1 a2
      rw [a1, a2]
    · rw [test_ge hc (by omega)] at hi; cases hi
  have e1 : apM (y &&& hullC y l) (hullC y l) v c = false := by
    rw [apM_iff]
    intro i h1 h2
    have a2 := hh y hyl i
    rw [h2, Bool.and_true] at a2
    rw [Nat.testBit_and, h1, Bool.and_true, a2]
  have e2 : (y &&& hullC y l) ||| v = y &&& hullC y l := by
    rw [or_self_iff]
    intro i hi
    have a2 := hh y hyl i
    rw [o i hi, Bool.and_true, hi] at a2
    rw [Nat.testBit_and, a2, key i (o i hi)]; rfl
  have e3 : hullC y l ||| c = hullC y l := by rw [or_self_iff]; exact key
  unfold wiM
  rw [hull_ok, hasM_ok (h y hyl), e1, decide_eq_true ⟨e2, e3⟩]
  rfl
theorem tb_and_one (a b i : Nat) : tb (a &&& b) i = 1 ↔ (tb a i = 1 ∧ tb b i = 1) := by
  rw [tb_one, tb_one, tb_one, Nat.testBit_and, Bool.and_eq_true]

/-- The bytes that a mask holds, rising; those below n. -/
def allN (v c n : Nat) : List Nat := (List.range n).filter (hasM v c)
theorem allN_succ (v c n : Nat) : allN v c (n + 1) = if hasM v c n = true then allN v c n ++ [n] else allN v c n := by
  unfold allN
  rw [List.range_succ, List.filter_append]
  cases h : hasM v c n
  · simp [h]
  · simp [h]
theorem allN_le (v c n : Nat) : (allN v c n).length ≤ n := by
  have := List.length_filter_le (hasM v c) (List.range n)
  rw [List.length_range] at this
  exact this
theorem allN_lt {v c n p : Nat} (h : p ∈ allN v c n) : p < n := by
  unfold allN at h
  rw [List.mem_filter, List.mem_range] at h
  exact h.1
/-- How many bytes it holds. -/
def cntM (v c : Nat) : Nat := if okM v c then 2 ^ Lib.onesCount (255 - c) else 0
def num (f : Nat → Bool) (m : Nat) : Nat := (List.range m).countP f
theorem num_succ (f : Nat → Bool) (m : Nat) : num f (m + 1) = num f m + (if f m then 1 else 0) := by
  unfold num; rw [List.range_succ, List.countP_append, List.countP_cons, List.countP_nil]; simp
theorem num_two (f : Nat → Bool) : ∀ m, num f (2 * m) = num (fun q => f (2 * q)) m + num (fun q => f (2 * q + 1)) m
  | 0 => rfl
  | m + 1 => by
    rw [show 2 * (m + 1) = 2 * m + 1 + 1 by omega, num_succ, num_succ, num_two f m, num_succ, num_succ]
    omega
theorem num_false (m : Nat) : num (fun _ => false) m = 0 := by unfold num; simp
theorem has_two (v c q b : Nat) (hb : b < 2) : hasM v c (2 * q + b) = (hasM (v / 2) (c / 2) q && decide (b &&& c % 2 = v % 2)) := by
  unfold hasM
  rw [Bool.eq_iff_iff, Bool.and_eq_true, decide_eq_true_eq, decide_eq_true_eq, decide_eq_true_eq]
  have e1 : ((2 * q + b) &&& c) / 2 = q &&& c / 2 := by rw [Nat.and_div_two, show (2 * q + b) / 2 = q by omega]
  have e2 : ((2 * q + b) &&& c) % 2 = b &&& c % 2 := by
    have := Nat.and_mod_two_pow (a := 2 * q + b) (b := c) (n := 1)
    rw [Nat.pow_one] at this
    rw [this, show (2 * q + b) % 2 = b by omega]
  constructor
  · intro h; rw [← e1, ← e2, h]; exact ⟨rfl, rfl⟩
  · rintro ⟨h1, h2⟩
    rw [← e1] at h1
    rw [← e2] at h2
    omega
/-- How many values the last bit may have. -/
def way (v c : Nat) : Nat := (if 0 &&& c % 2 = v % 2 then 1 else 0) + (if 1 &&& c % 2 = v % 2 then 1 else 0)
theorem num_has (v c m : Nat) : num (hasM v c) (2 * m) = num (hasM (v / 2) (c / 2)) m * way v c := by
  rw [num_two]
  have e0 : (fun q => hasM v c (2 * q)) = fun q => (hasM (v / 2) (c / 2) q && decide (0 &&& c % 2 = v % 2)) := funext fun q => has_two v c q 0 (by decide)
  have e1 : (fun q => hasM v c (2 * q + 1)) = fun q => (hasM (v / 2) (c / 2) q && decide (1 &&& c % 2 = v % 2)) := funext fun q => has_two v c q 1 (by decide)
  rw [e0, e1]
  have ee : num (fun q => hasM (v / 2) (c / 2) q) m = num (hasM (v / 2) (c / 2)) m := rfl
  unfold way
  by_cases h0 : 0 &&& c % 2 = v % 2 <;> by_cases h1 : 1 &&& c % 2 = v % 2
  all_goals simp only [h0, h1, decide_true, decide_false, Bool.and_true, Bool.and_false, if_true, if_false, num_false]; omega
def ways : Nat → Nat → Nat → Nat
  | 0, _, _ => 1
  | n + 1, v, c => ways n (v / 2) (c / 2) * way v c
theorem num_ways : ∀ n v c, v < 2 ^ n → num (hasM v c) (2 ^ n) = ways n v c
  | 0, v, c, h => by
    rw [show v = 0 by omega]
    show num (hasM 0 c) (0 + 1) = 1
    rw [num_succ]
    simp [hasM, num]
  | n + 1, v, c, h => by
    rw [Nat.pow_succ, Nat.mul_comm, num_has, num_ways n (v / 2) (c / 2) (by rw [Nat.pow_succ] at h; omega)]
    rfl
def zer : Nat → Nat → Nat
  | 0, _ => 0
  | n + 1, c => zer n (c / 2) + (1 - c % 2)
theorem way_ok {v c : Nat} (h : v &&& c = v) : way v c = 2 ^ (1 - c % 2) ∧ v / 2 &&& c / 2 = v / 2 := by
  refine ⟨?_, by rw [← Nat.and_div_two, h]⟩
  have e : v % 2 &&& c % 2 = v % 2 := by
    have := Nat.and_mod_two_pow (a := v) (b := c) (n := 1)
    rw [Nat.pow_one, h] at this
    exact this.symm
  unfold way
  obtain h1 | h1 : v % 2 = 0 ∨ v % 2 = 1 := by omega
  all_goals
    obtain h2 | h2 : c % 2 = 0 ∨ c % 2 = 1 := by omega
    all_goals rw [h1, h2] at e ⊢; revert e; decide
theorem ways_zer : ∀ n v c, v &&& c = v → ways n v c = 2 ^ zer n c
  | 0, _, _, _ => rfl
  | n + 1, v, c, h => by
    have hw := way_ok h
    show ways n (v / 2) (c / 2) * way v c = 2 ^ (zer n (c / 2) + (1 - c % 2))
    rw [ways_zer n _ _ hw.2, hw.1, Nat.pow_add]
theorem zer_ones : ∀ c, c < 256 → zer 8 c = Lib.onesCount (255 - c) := by decide +kernel
theorem ways_ok (c : Nat) (hc : c < 256) (v : Nat) (h : v &&& c = v) : ways 8 v c = 2 ^ Lib.onesCount (255 - c) := by
  rw [ways_zer 8 v c h, zer_ones c hc]
theorem allN_length (v c : Nat) (hv : v < 256) (hc : c < 256) : (allN v c 256).length = cntM v c := by
  unfold cntM
  by_cases h : okM v c = true
  · rw [if_pos h, ← ways_ok c hc v (by simpa [okM] using h), ← num_ways 8 v c hv]
    unfold allN num
    rw [List.countP_eq_length_filter]
  · rw [if_neg h]
    have : allN v c 256 = [] := by
      unfold allN
      rw [List.filter_eq_nil_iff]
      intro p _
      rw [hasM_of_not (by simpa using h)]
      simp
    rw [this]; rfl
theorem cntM_le (v c : Nat) (hv : v < 256) (hc : c < 256) : cntM v c ≤ 256 := by rw [← allN_length v c hv hc]; exact allN_le v c 256
end Go.Proofs.YtgidohnikggjfaaGreat
