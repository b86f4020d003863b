/-
  Texts and their tokens: line by line, from the front on. No program is named here.
-/
import Derived.RowKit
namespace Go.Proofs.YtehedlgdencboabGreatDoor
set_option linter.unusedVariables false
set_option linter.unusedSimpArgs false

/-- The byte at a place. -/
def bt (s : ByteArray) (i : Nat) : Nat := if h : i < s.size then (s[i]'h).toNat else 0
theorem bt_lt (s : ByteArray) (i : Nat) : bt s i < 256 := by
  unfold bt
  split
  · exact UInt8.toNat_lt _
  · decide
def blankB (c : Nat) : Bool := decide (c = 32) || decide (c = 9) || decide (c = 13)
def letterB (c : Nat) : Bool := decide (97 ≤ c ∧ c ≤ 122)
def digitB (c : Nat) : Bool := decide (48 ≤ c ∧ c ≤ 57)
def signB (c : Nat) : Bool := decide (c = 46) || decide (c = 47) || decide (c = 58) || decide (c = 42)
/-- Where the longest row from i on ends (at e at the latest). -/
def runB (p : Nat → Bool) (i e : Nat) : Nat := if h : i < e ∧ p i = true then runB p (i + 1) e else i
  termination_by e - i
  decreasing_by omega
theorem runB_go {p : Nat → Bool} {i e : Nat} (h : i < e) (hp : p i = true) : runB p i e = runB p (i + 1) e := by
  rw [runB, dif_pos ⟨h, hp⟩]
theorem runB_end {p : Nat → Bool} {i e : Nat} (h : ¬ (i < e ∧ p i = true)) : runB p i e = i := by
  rw [runB, dif_neg h]
theorem runB_ge (p : Nat → Bool) (e : Nat) : ∀ (n i : Nat), e - i = n → i ≤ runB p i e
  | n, i, hn => by
    by_cases h : i < e ∧ p i = true
    · rw [runB_go h.1 h.2]
      match n, hn with
      | n + 1, hn => exact Nat.le_trans (Nat.le_succ i) (runB_ge p e n (i + 1) (by omega))
      | 0, hn => omega
    · rw [runB_end h]; exact Nat.le_refl _
theorem runB_le (p : Nat → Bool) (e : Nat) : ∀ (n i : Nat), e - i = n → i ≤ e → runB p i e ≤ e
  | n, i, hn, hi => by
    by_cases h : i < e ∧ p i = true
    · rw [runB_go h.1 h.2]
      match n, hn with
      | n + 1, hn => exact runB_le p e n (i + 1) (by omega) (by omega)
      | 0, hn => omega
    · rw [runB_end h]; exact hi
theorem run_ge (p : Nat → Bool) (i e : Nat) : i ≤ runB p i e := runB_ge p e _ i rfl
theorem run_le (p : Nat → Bool) {i e : Nat} (h : i ≤ e) : runB p i e ≤ e := runB_le p e _ i rfl h
theorem run_gt {p : Nat → Bool} {i e : Nat} (h : i < e) (hp : p i = true) : i < runB p i e := by
  rw [runB_go h hp]; exact run_ge p (i + 1) e
/-- All that lies in the row is so. -/
theorem run_all {p : Nat → Bool} {e : Nat} : ∀ (n i k : Nat), e - i = n → i ≤ k → k < runB p i e → p k = true
  | n, i, k, hn, h1, h2 => by
    by_cases h : i < e ∧ p i = true
    · rw [runB_go h.1 h.2] at h2
      by_cases hk : k = i
      · rw [hk]; exact h.2
      · match n, hn with
        | n + 1, hn => exact run_all n (i + 1) k (by omega) (by omega) h2
        | 0, hn => omega
    · rw [runB_end h] at h2; omega
theorem run_stop {p : Nat → Bool} {e : Nat} : ∀ (n i : Nat), e - i = n → runB p i e < e → p (runB p i e) = false
  | n, i, hn, h2 => by
    by_cases h : i < e ∧ p i = true
    · rw [runB_go h.1 h.2] at h2 ⊢
      match n, hn with
      | n + 1, hn => exact run_stop n (i + 1) (by omega) h2
      | 0, hn => omega
    · rw [runB_end h] at h2 ⊢
      cases hp : p i
      · rfl
      · exact absurd ⟨h2, hp⟩ h
/-- A row is the same up to any place within it. -/
theorem run_from {p : Nat → Bool} {e : Nat} : ∀ (n i k : Nat), k - i = n → i ≤ k → k ≤ runB p i e → runB p k e = runB p i e
  | 0, i, k, hn, h1, h2 => by rw [show k = i by omega]
  | n + 1, i, k, hn, h1, h2 => by
    by_cases h : i < e ∧ p i = true
    · rw [runB_go h.1 h.2] at h2 ⊢
      exact run_from n (i + 1) k (by omega) (by omega) h2
    · rw [runB_end h] at h2; omega
/-- The number of a row of digits. -/
def numF (s : ByteArray) (i : Nat) : Nat → Nat
  | 0 => 0
  | k + 1 => 10 * numF s i k + (bt s (i + k) - 48)
def numOk (s : ByteArray) (i j : Nat) : Bool := !(decide (1 < j - i) && decide (bt s i = 48)) && decide (numF s i (j - i) ≤ 4294967295)
theorem numF_le (s : ByteArray) (i : Nat) : ∀ k n, k ≤ n → numF s i k ≤ numF s i n
  | k, 0, h => by rw [show k = 0 by omega]; exact Nat.le_refl _
  | k, n + 1, h => by
    by_cases e : k = n + 1
    · rw [e]; exact Nat.le_refl _
    · have := numF_le s i k n (by omega)
      show _ ≤ 10 * numF s i n + _
      omega
/-- A token: its kind, its bytes, its value, where it begins. -/
structure Tk where
  k : Nat
  t : ByteArray
  v : Nat
  l : Nat
  c : Nat
/-- What is wrong (0: nothing), and where. -/
structure Wr where
  e : Nat
  l : Nat
  c : Nat
/-- What stands at a place: its kind (0: nothing that is told), its end, its value, its error. -/
structure St where
  k : Nat
  j : Nat
  v : Nat
  e : Nat
def stepS (s : ByteArray) (i : Nat) : St :=
  if blankB (bt s i) then ⟨0, i + 1, 0, 0⟩
  else if letterB (bt s i) then ⟨1, runB (fun k => letterB (bt s k)) i s.size, 0, if 16 < runB (fun k => letterB (bt s k)) i s.size - i then 92 else 0⟩
  else if digitB (bt s i) then (if numOk s i (runB (fun k => digitB (bt s k)) i s.size) then ⟨2, runB (fun k => digitB (bt s k)) i s.size, numF s i (runB (fun k => digitB (bt s k)) i s.size - i), 0⟩ else ⟨2, runB (fun k => digitB (bt s k)) i s.size, 0, 91⟩)
  else if signB (bt s i) then ⟨3, i + 1, 0, 0⟩
  else ⟨0, i + 1, 0, 90⟩
theorem step_gt {s : ByteArray} {i : Nat} (h : i < s.size) : i < (stepS s i).j := by
  unfold stepS
  split
  · exact Nat.lt_succ_self _
  · split
    · rename_i _ hl
      exact run_gt (p := fun k => letterB (bt s k)) h hl
    · split
      · rename_i _ _ hd
        split <;> exact run_gt (p := fun k => digitB (bt s k)) h hd
      · split <;> exact Nat.lt_succ_self _
theorem step_le {s : ByteArray} {i : Nat} (h : i < s.size) : (stepS s i).j ≤ s.size := by
  unfold stepS
  split
  · exact h
  · split
    · exact run_le _ (Nat.le_of_lt h)
    · split
      · split <;> exact run_le _ (Nat.le_of_lt h)
      · split <;> exact h
/-- A line's tokens from a place on, up to what is wrong. -/
def lineT (s : ByteArray) (no i : Nat) : List Tk × Wr :=
  if h : i < s.size ∧ bt s i ≠ 35 then
    (if (stepS s i).e ≠ 0 then ([], ⟨(stepS s i).e, no, i + 1⟩)
     else if (stepS s i).k = 0 then lineT s no (stepS s i).j
     else (⟨(stepS s i).k, s.extract i (stepS s i).j, (stepS s i).v, no, i + 1⟩ :: (lineT s no (stepS s i).j).1, (lineT s no (stepS s i).j).2))
  else ([], ⟨0, 0, 0⟩)
  termination_by s.size - i
  decreasing_by
    all_goals
      have := step_gt h.1
      omega
theorem lineT_end {s : ByteArray} {no i : Nat} (h : ¬ (i < s.size ∧ bt s i ≠ 35)) : lineT s no i = ([], ⟨0, 0, 0⟩) := by
  rw [lineT, dif_neg h]
theorem lineT_bad {s : ByteArray} {no i : Nat} (h : i < s.size) (h2 : bt s i ≠ 35) (he : (stepS s i).e ≠ 0) : lineT s no i = ([], ⟨(stepS s i).e, no, i + 1⟩) := by
  rw [lineT, dif_pos ⟨h, h2⟩, if_pos he]
theorem lineT_skip {s : ByteArray} {no i : Nat} (h : i < s.size) (h2 : bt s i ≠ 35) (he : (stepS s i).e = 0) (hk : (stepS s i).k = 0) : lineT s no i = lineT s no (stepS s i).j := by
  rw [lineT, dif_pos ⟨h, h2⟩, if_neg (by simpa using he), if_pos hk]
theorem lineT_tok {s : ByteArray} {no i : Nat} (h : i < s.size) (h2 : bt s i ≠ 35) (he : (stepS s i).e = 0) (hk : (stepS s i).k ≠ 0) : lineT s no i = (⟨(stepS s i).k, s.extract i (stepS s i).j, (stepS s i).v, no, i + 1⟩ :: (lineT s no (stepS s i).j).1, (lineT s no (stepS s i).j).2) := by
  rw [lineT, dif_pos ⟨h, h2⟩, if_neg (by simpa using he), if_neg hk]
def lineA (s : ByteArray) (no : Nat) : List Tk × Wr := if 200 < s.size then ([], ⟨93, no, 1⟩) else lineT s no 0
/-- A line's end. -/
def endOf (s : ByteArray) (i : Nat) : Nat := runB (fun k => decide (bt s k ≠ 10)) i s.size
theorem endOf_ge (s : ByteArray) (i : Nat) : i ≤ endOf s i := run_ge _ _ _
theorem endOf_le {s : ByteArray} {i : Nat} (h : i ≤ s.size) : endOf s i ≤ s.size := run_le _ h
def endT (s : ByteArray) (no i : Nat) : Tk := ⟨4, if endOf s i < s.size then s.extract (endOf s i) (endOf s i + 1) else ByteArray.empty, 0, no, endOf s i - i + 1⟩
/-- A text's tokens from a line's beginning on, up to what is wrong. -/
def allT (s : ByteArray) (no i : Nat) : List Tk × Wr :=
  if h : i < s.size then
    (if (lineA (s.extract i (endOf s i)) no).2.e ≠ 0 then lineA (s.extract i (endOf s i)) no
     else ((lineA (s.extract i (endOf s i)) no).1 ++ endT s no i :: (allT s (no + 1) (endOf s i + 1)).1, (allT s (no + 1) (endOf s i + 1)).2))
  else ([], ⟨0, 0, 0⟩)
  termination_by s.size - i
  decreasing_by
    all_goals
      have := endOf_ge s i
      omega
theorem allT_end {s : ByteArray} {no i : Nat} (h : ¬ i < s.size) : allT s no i = ([], ⟨0, 0, 0⟩) := by rw [allT, dif_neg h]
theorem allT_bad {s : ByteArray} {no i : Nat} (h : i < s.size) (he : (lineA (s.extract i (endOf s i)) no).2.e ≠ 0) : allT s no i = lineA (s.extract i (endOf s i)) no := by
  rw [allT, dif_pos h, if_pos he]
theorem allT_line {s : ByteArray} {no i : Nat} (h : i < s.size) (he : (lineA (s.extract i (endOf s i)) no).2.e = 0) : allT s no i = ((lineA (s.extract i (endOf s i)) no).1 ++ endT s no i :: (allT s (no + 1) (endOf s i + 1)).1, (allT s (no + 1) (endOf s i + 1)).2) := by
  rw [allT, dif_pos h, if_neg (by simpa using he)]
def lexT (s : ByteArray) : List Tk × Wr := if 65536 < s.size then ([], ⟨2, 0, 0⟩) else allT s 1 0
end Go.Proofs.YtehedlgdencboabGreatDoor
