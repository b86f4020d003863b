/-
  The tokens of a text that is taken lie in it in order, where they say, with nothing but blanks and remarks between. No program is named here.
-/
import Derived.Test.YtpbbeemlaigimaaDoorLxPlB
namespace Go.Proofs.YtpbbeemlaigimaaDoor
set_option linter.unusedVariables false
set_option linter.unusedSimpArgs false

/-- Between a and p: no line's end; blanks, or within a remark. -/
def gapOk (s : ByteArray) (a p : Nat) : Prop := ∀ k, a ≤ k → k < p → bt s k ≠ 10 ∧ (blankB (bt s k) = true ∨ ∃ j, a ≤ j ∧ j ≤ k ∧ bt s j = 35)
def noRem (s : ByteArray) (a p : Nat) : Prop := ∀ k, a ≤ k → k < p → bt s k ≠ 35
def Tells (s : ByteArray) : Nat → Nat → Nat → List Tk → Prop
  | a, beg, line, [] => a = s.size
  | a, beg, line, t :: l => ∃ p, p + 1 = beg + t.c ∧ a ≤ p ∧ gapOk s a p ∧ t.l = line ∧ p + t.t.size ≤ s.size ∧ s.extract p (p + t.t.size) = t.t ∧ ((t.k = 4 ∧ Tells s (p + t.t.size) (p + t.t.size) (line + 1) l) ∨ (t.k ≠ 4 ∧ noRem s a p ∧ Tells s (p + t.t.size) beg line l))
theorem blank_not35 {c : Nat} (h : blankB c = true) : c ≠ 35 := by
  unfold blankB at h; intro e; subst e; simp at h
theorem blank_not10 {c : Nat} (h : blankB c = true) : c ≠ 10 := by
  unfold blankB at h; intro e; subst e; simp at h
theorem step_blank {s : ByteArray} {i : Nat} (he : (stepS s i).e = 0) (hk : (stepS s i).k = 0) : blankB (bt s i) = true ∧ (stepS s i).j = i + 1 := by
  unfold stepS at he hk ⊢
  cases q1 : blankB (bt s i)
  · rw [q1] at he hk
    simp only [Bool.false_eq_true, if_false] at he hk
    split at hk
    · cases hk
    · split at hk
      · split at hk <;> cases hk
      · split at hk
        · cases hk
        · rename_i a b c
          rw [if_neg a, if_neg b, if_neg c] at he
          cases he
  · simp
theorem step_kind3 {s : ByteArray} {i : Nat} : (stepS s i).k ≠ 4 := by have := (@step_kind s i).1; omega
/-- A line's tokens, then its end. -/
theorem line_tells {s : ByteArray} {i E no : Nat} (hi : i ≤ E) (hE : E ≤ s.size) (h10 : ∀ k, i ≤ k → k < E → bt s k ≠ 10) {tend : Tk} {rest : List Tk} (ht1 : tend.k = 4) (ht2 : tend.l = no) (ht3 : tend.c = E - i + 1) (ht4 : E + tend.t.size ≤ s.size) (ht5 : s.extract E (E + tend.t.size) = tend.t)
    (hrest : Tells s (E + tend.t.size) (E + tend.t.size) (no + 1) rest) : ∀ (n j a : Nat), (s.extract i E).size - j = n → a ≤ j → j ≤ E - i → (∀ k, a ≤ k → k < j → blankB (bt (s.extract i E) k) = true) → (lineT (s.extract i E) no j).2.e = 0 → Tells s (i + a) i no ((lineT (s.extract i E) no j).1 ++ tend :: rest) := by
  have hz := ex_size s i E hi hE
  have hb : ∀ k, k < E - i → bt (s.extract i E) k = bt s (i + k) := fun k hk => bt_ex s i E k (by omega) hE
  intro n
  induction n using Nat.strongRecOn with
  | _ n ih =>
    intro j a hn haj hj hbl he
    by_cases h : j < (s.extract i E).size ∧ bt (s.extract i E) j ≠ 35
    · have hg := step_gt h.1
      have hle := step_le h.1
      rw [hz] at hle
      by_cases hse : (stepS (s.extract i E) j).e = 0
      · by_cases hk : (stepS (s.extract i E) j).k = 0
        · obtain ⟨q1, q2⟩ := step_blank hse hk
          rw [lineT_skip h.1 h.2 hse hk] at he ⊢
          rw [q2] at he ⊢ hg
          refine ih ((s.extract i E).size - (j + 1)) (by omega) (j + 1) a rfl (by omega) (by rw [hz] at h; omega) (fun k h1 h2 => ?_) he
          by_cases e : k = j
          · rw [e]; exact q1
          · exact hbl k h1 (by omega)
        · rw [lineT_tok h.1 h.2 hse hk] at he ⊢
          have hsz : ((s.extract i E).extract j (stepS (s.extract i E) j).j).size = (stepS (s.extract i E) j).j - j := ex_size _ _ _ (Nat.le_of_lt hg) (by rw [hz]; exact hle)
          refine ⟨i + j, by simp only; omega, by omega, fun k h1 h2 => ?_, rfl, ?_, ?_, .inr ⟨step_kind3, fun k h1 h2 => ?_, ?_⟩⟩
          · have e := hbl (k - i) (by omega) (by omega)
            rw [hb (k - i) (by omega), show i + (k - i) = k by omega] at e
            exact ⟨blank_not10 e, .inl e⟩
          · simp only; rw [hsz]; omega
          · simp only; rw [hsz, show i + j + ((stepS (s.extract i E) j).j - j) = i + (stepS (s.extract i E) j).j by omega]
            exact (ex_ex s i E j _ (by omega)).symm
          · have e := hbl (k - i) (by omega) (by omega)
            rw [hb (k - i) (by omega), show i + (k - i) = k by omega] at e
            exact blank_not35 e
          · simp only; rw [hsz, show i + j + ((stepS (s.extract i E) j).j - j) = i + (stepS (s.extract i E) j).j by omega]
            exact ih ((s.extract i E).size - (stepS (s.extract i E) j).j) (by omega) (stepS (s.extract i E) j).j (stepS (s.extract i E) j).j rfl (Nat.le_refl _) hle (fun k h1 h2 => by omega) he
      · rw [lineT_bad h.1 h.2 hse] at he
        exact absurd he hse
    · rw [lineT_end h, List.nil_append]
      refine ⟨E, by rw [ht3]; omega, by omega, fun k h1 h2 => ⟨h10 k (by omega) h2, ?_⟩, ht2, ht4, ht5, .inl ⟨ht1, hrest⟩⟩
      by_cases hkj : k < i + j
      · have e := hbl (k - i) (by omega) (by omega)
        rw [hb (k - i) (by omega), show i + (k - i) = k by omega] at e
        exact .inl e
      · have hj2 : j < (s.extract i E).size := by rw [hz]; omega
        have h35 : bt (s.extract i E) j = 35 := by
          by_cases c : bt (s.extract i E) j = 35
          · exact c
          · exact absurd ⟨hj2, c⟩ h
        rw [hb j (by omega)] at h35
        exact .inr ⟨i + j, by omega, by omega, h35⟩
theorem all_tells (s : ByteArray) : ∀ (n i no : Nat), s.size - i = n → i ≤ s.size → (allT s no i).2.e = 0 → Tells s i i no (allT s no i).1 := by
  intro n
  induction n using Nat.strongRecOn with
  | _ n ih =>
    intro i no hn hi he
    by_cases h : i < s.size
    · have hge := endOf_ge s i
      have hle := endOf_le (Nat.le_of_lt h)
      have h10 : ∀ k, i ≤ k → k < endOf s i → bt s k ≠ 10 := fun k h1 h2 => by
        have := run_all (p := fun k => decide (bt s k ≠ 10)) (e := s.size) _ i k rfl h1 h2
        simpa using this
      by_cases hl : (lineA (s.extract i (endOf s i)) no).2.e = 0
      · rw [allT_line h hl] at he ⊢
        have hz := ex_size s i (endOf s i) hge hle
        have hA : lineA (s.extract i (endOf s i)) no = lineT (s.extract i (endOf s i)) no 0 := by
          unfold lineA at hl ⊢
          split
          · rename_i c; rw [if_pos c] at hl; cases hl
          · rfl
        rw [hA] at hl ⊢
        have hend : (endT s no i).t.size = if endOf s i < s.size then 1 else 0 := by
          unfold endT
          simp only
          split
          · rw [ex_size s _ _ (by omega) (by omega)]; omega
          · simp
        have hrest : Tells s (endOf s i + (endT s no i).t.size) (endOf s i + (endT s no i).t.size) (no + 1) (allT s (no + 1) (endOf s i + 1)).1 := by
          rw [hend]
          by_cases c : endOf s i < s.size
          · rw [if_pos c]
            exact ih (s.size - (endOf s i + 1)) (by omega) (endOf s i + 1) (no + 1) rfl c he
          · rw [if_neg c, allT_end (by omega)]
            show _ = _; omega
        have := line_tells (s := s) (i := i) (E := endOf s i) (no := no) hge hle h10 (tend := endT s no i) (rest := (allT s (no + 1) (endOf s i + 1)).1) rfl rfl rfl (by rw [hend]; split <;> omega) (by
          rw [hend]
          by_cases c : endOf s i < s.size
          · rw [if_pos c]; unfold endT; simp only; rw [if_pos c]
          · rw [if_neg c]
            unfold endT
            simp only
            rw [if_neg c, Nat.add_zero]
            apply ByteArray.ext
            simp) hrest _ 0 0 rfl (Nat.le_refl _) (Nat.zero_le _) (fun k h1 h2 => by omega) hl
        simpa using this
      · rw [allT_bad h hl] at he
        exact absurd he hl
    · rw [allT_end h]
      show _ = _; omega
theorem lex_tells (s : ByteArray) (h : s.size ≤ 65536) (he : (lexT s).2.e = 0) : Tells s 0 0 1 (lexT s).1 := by
  unfold lexT at he ⊢
  rw [if_neg (by omega)] at he ⊢
  exact all_tells s _ 0 1 rfl (Nat.zero_le _) he
theorem lex_small (s : ByteArray) (he : (lexT s).2.e = 0) : s.size ≤ 65536 := by
  by_cases h : 65536 < s.size
  · unfold lexT at he; rw [if_pos h] at he; cases he
  · omega
end Go.Proofs.YtpbbeemlaigimaaDoor
