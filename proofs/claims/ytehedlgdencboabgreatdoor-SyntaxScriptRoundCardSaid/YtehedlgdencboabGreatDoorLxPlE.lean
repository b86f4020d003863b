/-
  Texts: the same by counting down (so that the examples can be reckoned). No program is named here.
-/
import Derived.Test.YtehedlgdencboabGreatDoorLxPlB
namespace Go.Proofs.YtehedlgdencboabGreatDoor
set_option linter.unusedVariables false
set_option linter.unusedSimpArgs false

def runF (p : Nat → Bool) : Nat → Nat → Nat
  | 0, i => i
  | f + 1, i => if p i then runF p f (i + 1) else i
theorem runF_is (p : Nat → Bool) (e : Nat) : ∀ (f i : Nat), e - i = f → i ≤ e → runF p f i = runB p i e
  | 0, i, h, hi => by rw [runB_end (by omega)]; rfl
  | f + 1, i, h, hi => by
    unfold runF
    by_cases c : p i = true
    · rw [if_pos c, runB_go (by omega) c]; exact runF_is p e f (i + 1) (by omega) (by omega)
    · rw [if_neg c, runB_end (fun x => c x.2)]
def stepF (s : ByteArray) (i : Nat) : St :=
  if blankB (bt s i) then ⟨0, i + 1, 0, 0⟩
  else if letterB (bt s i) then ⟨1, runF (fun k => letterB (bt s k)) (s.size - i) i, 0, if 16 < runF (fun k => letterB (bt s k)) (s.size - i) i - i then 92 else 0⟩
  else if digitB (bt s i) then (if numOk s i (runF (fun k => digitB (bt s k)) (s.size - i) i) then ⟨2, runF (fun k => digitB (bt s k)) (s.size - i) i, numF s i (runF (fun k => digitB (bt s k)) (s.size - i) i - i), 0⟩ else ⟨2, runF (fun k => digitB (bt s k)) (s.size - i) i, 0, 91⟩)
  else if signB (bt s i) then ⟨3, i + 1, 0, 0⟩
  else ⟨0, i + 1, 0, 90⟩
theorem stepF_is (s : ByteArray) (i : Nat) (h : i ≤ s.size) : stepF s i = stepS s i := by
  unfold stepF stepS
  rw [runF_is (fun k => letterB (bt s k)) s.size _ i rfl h, runF_is (fun k => digitB (bt s k)) s.size _ i rfl h]
def lineF (s : ByteArray) (no : Nat) : Nat → Nat → List Tk × Wr
  | 0, i => ([], ⟨0, 0, 0⟩)
  | f + 1, i =>
    if i < s.size ∧ bt s i ≠ 35 then
      (if (stepF s i).e ≠ 0 then ([], ⟨(stepF s i).e, no, i + 1⟩)
       else if (stepF s i).k = 0 then lineF s no f (stepF s i).j
       else (⟨(stepF s i).k, s.extract i (stepF s i).j, (stepF s i).v, no, i + 1⟩ :: (lineF s no f (stepF s i).j).1, (lineF s no f (stepF s i).j).2))
    else ([], ⟨0, 0, 0⟩)
theorem lineF_is (s : ByteArray) (no : Nat) : ∀ (f i : Nat), s.size - i ≤ f → lineF s no f i = lineT s no i
  | 0, i, h => by rw [lineT_end (by omega)]; rfl
  | f + 1, i, h => by
    unfold lineF
    by_cases c : i < s.size ∧ bt s i ≠ 35
    · have hg := step_gt c.1
      rw [if_pos c, stepF_is s i (Nat.le_of_lt c.1), lineF_is s no f (stepS s i).j (by omega)]
      by_cases he : (stepS s i).e = 0
      · rw [if_neg (by simpa using he)]
        by_cases hk : (stepS s i).k = 0
        · rw [if_pos hk, lineT_skip c.1 c.2 he hk]
        · rw [if_neg hk, lineT_tok c.1 c.2 he hk]
      · rw [if_pos he, lineT_bad c.1 c.2 he]
    · rw [if_neg c, lineT_end c]
def lineAF (s : ByteArray) (no : Nat) : List Tk × Wr := if 200 < s.size then ([], ⟨93, no, 1⟩) else lineF s no s.size 0
theorem lineAF_is (s : ByteArray) (no : Nat) : lineAF s no = lineA s no := by
  unfold lineAF lineA
  rw [lineF_is s no s.size 0 (by omega)]
def endF (s : ByteArray) (i : Nat) : Nat := runF (fun k => decide (bt s k ≠ 10)) (s.size - i) i
theorem endF_is (s : ByteArray) (i : Nat) (h : i ≤ s.size) : endF s i = endOf s i := runF_is _ s.size _ i rfl h
def allF (s : ByteArray) : Nat → Nat → Nat → List Tk × Wr
  | 0, no, i => ([], ⟨0, 0, 0⟩)
  | f + 1, no, i =>
    if i < s.size then
      (if (lineAF (s.extract i (endF s i)) no).2.e ≠ 0 then lineAF (s.extract i (endF s i)) no
       else ((lineAF (s.extract i (endF s i)) no).1 ++ ⟨4, if endF s i < s.size then s.extract (endF s i) (endF s i + 1) else ByteArray.empty, 0, no, endF s i - i + 1⟩ :: (allF s f (no + 1) (endF s i + 1)).1, (allF s f (no + 1) (endF s i + 1)).2))
    else ([], ⟨0, 0, 0⟩)
theorem allF_is (s : ByteArray) : ∀ (f no i : Nat), s.size - i ≤ f → allF s f no i = allT s no i
  | 0, no, i, h => by rw [allT_end (by omega)]; rfl
  | f + 1, no, i, h => by
    unfold allF
    by_cases c : i < s.size
    · have hg := endOf_ge s i
      rw [if_pos c, endF_is s i (Nat.le_of_lt c), lineAF_is, allF_is s f (no + 1) (endOf s i + 1) (by omega)]
      by_cases he : (lineA (s.extract i (endOf s i)) no).2.e = 0
      · rw [if_neg (by simpa using he), allT_line c he]; rfl
      · rw [if_pos he, allT_bad c he]
    · rw [if_neg c, allT_end c]
theorem lexT_is (s : ByteArray) (h : s.size ≤ 65536) : lexT s = allF s s.size 1 0 := by
  unfold lexT
  rw [if_neg (by omega), allF_is s s.size 1 0 (by omega)]
/-- The chapter's example, and what is wrong. -/
def exA : ByteArray := ⟨#[114, 117, 108, 101, 32, 55, 58, 32, 49, 48, 46, 48, 46, 48, 46, 48, 47, 56, 32, 35, 32, 120, 10, 42]⟩
def exB : ByteArray := ⟨#[97, 45, 98]⟩
def flatTk (t : Tk) : Nat × List Nat × Nat × Nat × Nat := (t.k, t.t.data.toList.map (·.toNat), t.v, t.l, t.c)
theorem wr_of {w : Wr} {e l c : Nat} (h : w.e = e ∧ w.l = l ∧ w.c = c) : w = ⟨e, l, c⟩ := by
  obtain ⟨a, b, d⟩ := w
  obtain ⟨rfl, rfl, rfl⟩ := h
  rfl
theorem exA_nums : ((allF exA exA.size 1 0).2.e = 0 ∧ (allF exA exA.size 1 0).2.l = 0 ∧ (allF exA exA.size 1 0).2.c = 0) ∧ (allF exA exA.size 1 0).1.map flatTk = [(1, [114, 117, 108, 101], 0, 1, 1), (2, [55], 7, 1, 6), (3, [58], 0, 1, 7), (2, [49, 48], 10, 1, 9), (3, [46], 0, 1, 11), (2, [48], 0, 1, 12), (3, [46], 0, 1, 13), (2, [48], 0, 1, 14), (3, [46], 0, 1, 15), (2, [48], 0, 1, 16), (3, [47], 0, 1, 17), (2, [56], 8, 1, 18), (4, [10], 0, 1, 23), (3, [42], 0, 2, 1), (4, [], 0, 2, 2)] := by decide +kernel
theorem exA_is : (allF exA exA.size 1 0).2 = ⟨0, 0, 0⟩ ∧ (allF exA exA.size 1 0).1.map flatTk = [(1, [114, 117, 108, 101], 0, 1, 1), (2, [55], 7, 1, 6), (3, [58], 0, 1, 7), (2, [49, 48], 10, 1, 9), (3, [46], 0, 1, 11), (2, [48], 0, 1, 12), (3, [46], 0, 1, 13), (2, [48], 0, 1, 14), (3, [46], 0, 1, 15), (2, [48], 0, 1, 16), (3, [47], 0, 1, 17), (2, [56], 8, 1, 18), (4, [10], 0, 1, 23), (3, [42], 0, 2, 1), (4, [], 0, 2, 2)] := ⟨wr_of exA_nums.1, exA_nums.2⟩
theorem exB_nums : (allF exB exB.size 1 0).2.e = 90 ∧ (allF exB exB.size 1 0).2.l = 1 ∧ (allF exB exB.size 1 0).2.c = 2 := by decide +kernel
theorem exB_is : (allF exB exB.size 1 0).2 = ⟨90, 1, 2⟩ := wr_of exB_nums
end Go.Proofs.YtehedlgdencboabGreatDoor
