/-
  A text that is cut behind a line's end: the tokens of its two parts, one behind the other. No program is named here.
-/
import Derived.Test.YtehedlgdencboabGreatDoorLxPlB
namespace Go.Proofs.YtehedlgdencboabGreatDoor
set_option linter.unusedVariables false
set_option linter.unusedSimpArgs false

theorem run_same {p q : Nat → Bool} {e : Nat} : ∀ (n i : Nat), e - i = n → (∀ k, i ≤ k → k < e → p k = q k) → runB p i e = runB q i e
  | n, i, hn, h => by
    by_cases c : i < e ∧ p i = true
    · have c2 : q i = true := by rw [← h i (Nat.le_refl _) c.1]; exact c.2
      rw [runB_go c.1 c.2, runB_go c.1 c2]
      match n, hn with
      | n + 1, hn => exact run_same n (i + 1) (by omega) fun k h1 h2 => h k (by omega) h2
      | 0, hn => omega
    · have c2 : ¬ (i < e ∧ q i = true) := fun c2 => c ⟨c2.1, by rw [h i (Nat.le_refl _) c2.1]; exact c2.2⟩
      rw [runB_end c, runB_end c2]
/-- A row that ends ahead of e ends there for every greater e. -/
theorem run_more {p : Nat → Bool} {e f : Nat} (hf : e ≤ f) : ∀ (n i : Nat), e - i = n → runB p i e < e → runB p i f = runB p i e
  | n, i, hn, h => by
    by_cases c : i < e ∧ p i = true
    · rw [runB_go c.1 c.2] at h ⊢
      rw [runB_go (by omega) c.2]
      match n, hn with
      | n + 1, hn => exact run_more hf n (i + 1) (by omega) h
      | 0, hn => omega
    · rw [runB_end c] at h ⊢
      exact runB_end fun c2 => c ⟨h, c2.2⟩
theorem run_shift {p q : Nat → Bool} {a e : Nat} : ∀ (n i : Nat), e - i = n → (∀ k, i ≤ k → k < e → p (a + k) = q k) → runB p (a + i) (a + e) = a + runB q i e
  | n, i, hn, h => by
    by_cases c : i < e ∧ q i = true
    · have c2 : p (a + i) = true := by rw [h i (Nat.le_refl _) c.1]; exact c.2
      rw [runB_go (show a + i < a + e by omega) c2, runB_go c.1 c.2]
      match n, hn with
      | n + 1, hn =>
        have := run_shift (p := p) (q := q) (a := a) (e := e) n (i + 1) (by omega) fun k h1 h2 => h k (by omega) h2
        rw [← this]; rfl
      | 0, hn => omega
    · have c2 : ¬ (a + i < a + e ∧ p (a + i) = true) := fun c2 => c ⟨by omega, by rw [← h i (Nat.le_refl _) (by omega)]; exact c2.2⟩
      rw [runB_end c2, runB_end c]
/-- Lines counted on. -/
def shT (m : Nat) (t : Tk) : Tk := ⟨t.k, t.t, t.v, t.l + m, t.c⟩
def shW (m : Nat) (w : Wr) : Wr := if w.e = 0 then w else ⟨w.e, w.l + m, w.c⟩
theorem lineT_sh (s : ByteArray) (no m : Nat) : ∀ (n i : Nat), s.size - i = n → lineT s (no + m) i = ((lineT s no i).1.map (shT m), shW m (lineT s no i).2) := by
  intro n
  induction n using Nat.strongRecOn with
  | _ n ih =>
    intro i hn
    by_cases h : i < s.size ∧ bt s i ≠ 35
    · have hg := step_gt h.1
      by_cases he : (stepS s i).e = 0
      · have a := ih (s.size - (stepS s i).j) (by omega) (stepS s i).j rfl
        by_cases hk : (stepS s i).k = 0
        · rw [lineT_skip h.1 h.2 he hk, lineT_skip h.1 h.2 he hk]; exact a
        · rw [lineT_tok h.1 h.2 he hk, lineT_tok h.1 h.2 he hk, a]; rfl
      · rw [lineT_bad h.1 h.2 he, lineT_bad h.1 h.2 he]
        simp only [List.map_nil, shW]
        rw [if_neg he]
    · rw [lineT_end h, lineT_end h]; simp [shW]
theorem lineA_sh (s : ByteArray) (no m : Nat) : lineA s (no + m) = ((lineA s no).1.map (shT m), shW m (lineA s no).2) := by
  unfold lineA
  split
  · simp [shW]
  · exact lineT_sh s no m _ 0 rfl
theorem shW_e (m : Nat) (w : Wr) : (shW m w).e = w.e := by unfold shW; split <;> rfl
theorem allT_sh (s : ByteArray) (m : Nat) : ∀ (n i no : Nat), s.size - i = n → allT s (no + m) i = ((allT s no i).1.map (shT m), shW m (allT s no i).2) := by
  intro n
  induction n using Nat.strongRecOn with
  | _ n ih =>
    intro i no hn
    by_cases h : i < s.size
    · have hg := endOf_ge s i
      have hA := lineA_sh (s.extract i (endOf s i)) no m
      have hE : (lineA (s.extract i (endOf s i)) (no + m)).2.e = (lineA (s.extract i (endOf s i)) no).2.e := by rw [hA]; exact shW_e _ _
      by_cases he : (lineA (s.extract i (endOf s i)) no).2.e = 0
      · rw [allT_line h he, allT_line h (by rw [hE]; exact he)]
        have a := ih (s.size - (endOf s i + 1)) (by omega) (endOf s i + 1) (no + 1) rfl
        rw [show no + 1 + m = no + m + 1 by omega] at a
        rw [a, hA]
        simp only [List.map_append, List.map_cons]
        rfl
      · rw [allT_bad h he, allT_bad h (by rw [hE]; exact he), hA]
    · rw [allT_end h, allT_end h]; simp [shW]
/-- How many line's ends lie from a place on. -/
def cnt10 (s : ByteArray) (i : Nat) : Nat := if h : i < s.size then (if bt s i = 10 then 1 else 0) + cnt10 s (i + 1) else 0
  termination_by s.size - i
  decreasing_by omega
theorem cnt10_end {s : ByteArray} {i : Nat} (h : ¬ i < s.size) : cnt10 s i = 0 := by rw [cnt10, dif_neg h]
theorem cnt10_go {s : ByteArray} {i : Nat} (h : i < s.size) : cnt10 s i = (if bt s i = 10 then 1 else 0) + cnt10 s (i + 1) := by rw [cnt10, dif_pos h]
theorem cnt10_line (s : ByteArray) : ∀ (n i : Nat), s.size - i = n → endOf s i < s.size → cnt10 s i = 1 + cnt10 s (endOf s i + 1)
  | n, i, hn, h => by
    have hge := endOf_ge s i
    have hi : i < s.size := by omega
    clear hge
    rw [cnt10_go hi]
    unfold endOf at h ⊢
    by_cases c : bt s i = 10
    · rw [runB_end (by simp [c])]; rw [if_pos c]
    · have c' : decide (bt s i ≠ 10) = true := by simpa using c
      rw [runB_go hi c'] at h ⊢
      rw [if_neg c, Nat.zero_add]
      match n, hn with
      | n + 1, hn => exact cnt10_line s n (i + 1) (by omega) h
      | 0, hn => omega
theorem end_in (x b : ByteArray) (hx : 0 < x.size) (hl : bt x (x.size - 1) = 10) {i : Nat} (h : i < x.size) : endOf x i < x.size ∧ endOf (x ++ b) i = endOf x i := by
  have h1 : endOf x i < x.size := by
    rcases Nat.lt_or_ge (endOf x i) x.size with h1 | h1
    · exact h1
    · exfalso
      have := run_all (p := fun k => decide (bt x k ≠ 10)) (e := x.size) _ i (x.size - 1) rfl (by omega) (by show _ < endOf x i; omega)
      simp [hl] at this
  refine ⟨h1, ?_⟩
  unfold endOf at h1 ⊢
  have e : runB (fun k => decide (bt (x ++ b) k ≠ 10)) i x.size = runB (fun k => decide (bt x k ≠ 10)) i x.size := run_same _ i rfl fun k _ h2 => by simp only [bt_left x b k h2]
  rw [run_more (p := fun k => decide (bt (x ++ b) k ≠ 10)) (e := x.size) (by simp) _ i rfl (by rw [e]; exact h1), e]
theorem end_out (x b : ByteArray) (i : Nat) (h : i ≤ b.size) : endOf (x ++ b) (x.size + i) = x.size + endOf b i := by
  unfold endOf
  rw [show (x ++ b).size = x.size + b.size by simp]
  exact run_shift _ i rfl fun k _ h2 => by simp only [bt_right x b k h2]
theorem allT_out (x b : ByteArray) : ∀ (n i no : Nat), b.size - i = n → allT (x ++ b) no (x.size + i) = allT b no i := by
  intro n
  induction n using Nat.strongRecOn with
  | _ n ih =>
    intro i no hn
    by_cases h : i < b.size
    · have h' : x.size + i < (x ++ b).size := by simp; omega
      have e := end_out x b i (Nat.le_of_lt h)
      have hg := endOf_ge b i
      have hA : (x ++ b).extract (x.size + i) (endOf (x ++ b) (x.size + i)) = b.extract i (endOf b i) := by rw [e]; exact ex_right x b _ _
      have hT : endT (x ++ b) no (x.size + i) = endT b no i := by
        unfold endT
        rw [e]
        have hc : (x.size + endOf b i < (x ++ b).size) ↔ endOf b i < b.size := by simp
        simp only [hc]
        rw [show x.size + endOf b i + 1 = x.size + (endOf b i + 1) by omega, ex_right, show x.size + endOf b i - (x.size + i) + 1 = endOf b i - i + 1 by omega]
      by_cases he : (lineA (b.extract i (endOf b i)) no).2.e = 0
      · rw [allT_line h' (by rw [hA]; exact he), allT_line h he, hA, hT, e, show x.size + endOf b i + 1 = x.size + (endOf b i + 1) by omega, ih (b.size - (endOf b i + 1)) (by omega) (endOf b i + 1) (no + 1) rfl]
      · rw [allT_bad h' (by rw [hA]; exact he), allT_bad h he, hA]
    · rw [allT_end h, allT_end (by simp; omega)]
theorem allT_in (x b : ByteArray) (hx : 0 < x.size) (hl : bt x (x.size - 1) = 10) : ∀ (n i no : Nat), x.size - i = n → i ≤ x.size → ((allT x no i).2.e ≠ 0 → allT (x ++ b) no i = allT x no i) ∧ ((allT x no i).2.e = 0 → allT (x ++ b) no i = ((allT x no i).1 ++ (allT (x ++ b) (no + cnt10 x i) x.size).1, (allT (x ++ b) (no + cnt10 x i) x.size).2)) := by
  intro n
  induction n using Nat.strongRecOn with
  | _ n ih =>
    intro i no hn hi
    by_cases h : i < x.size
    · have h' : i < (x ++ b).size := by simp; omega
      obtain ⟨h1, e⟩ := end_in x b hx hl h
      have hg := endOf_ge x i
      have hA : (x ++ b).extract i (endOf (x ++ b) i) = x.extract i (endOf x i) := by rw [e]; exact ex_left x b _ _ (Nat.le_of_lt h1)
      have hT : endT (x ++ b) no i = endT x no i := by
        unfold endT
        rw [e, if_pos h1, if_pos (by simp; omega), ex_left x b _ _ h1]
      have hc := cnt10_line x _ i rfl h1
      by_cases he : (lineA (x.extract i (endOf x i)) no).2.e = 0
      · obtain ⟨q1, q2⟩ := ih (x.size - (endOf x i + 1)) (by omega) (endOf x i + 1) (no + 1) rfl (by omega)
        rw [allT_line h' (by rw [hA]; exact he), allT_line h he, hA, hT, e]
        refine ⟨fun hw => ?_, fun hw => ?_⟩
        · rw [q1 hw]
        · rw [q2 hw, hc, show no + (1 + cnt10 x (endOf x i + 1)) = no + 1 + cnt10 x (endOf x i + 1) by omega]
          simp
      · rw [allT_bad h' (by rw [hA]; exact he), allT_bad h he, hA]
        exact ⟨fun _ => rfl, fun hw => absurd hw he⟩
    · obtain rfl : i = x.size := by omega
      rw [allT_end h, cnt10_end h]
      exact ⟨fun hw => absurd rfl hw, fun _ => by simp⟩
/-- The two parts. -/
theorem join_bad (x b : ByteArray) (hx : 0 < x.size) (hl : bt x (x.size - 1) = 10) (h : (allT x 1 0).2.e ≠ 0) : allT (x ++ b) 1 0 = allT x 1 0 := (allT_in x b hx hl _ 0 1 rfl (Nat.zero_le _)).1 h
theorem join_ok (x b : ByteArray) (hx : 0 < x.size) (hl : bt x (x.size - 1) = 10) (h : (allT x 1 0).2.e = 0) : allT (x ++ b) 1 0 = ((allT x 1 0).1 ++ (allT b 1 0).1.map (shT (cnt10 x 0)), shW (cnt10 x 0) (allT b 1 0).2) := by
  rw [(allT_in x b hx hl _ 0 1 rfl (Nat.zero_le _)).2 h]
  have e := allT_out x b _ 0 (1 + cnt10 x 0) rfl
  rw [Nat.add_zero] at e
  rw [e, allT_sh b (cnt10 x 0) _ 0 1 rfl]
end Go.Proofs.YtehedlgdencboabGreatDoor
