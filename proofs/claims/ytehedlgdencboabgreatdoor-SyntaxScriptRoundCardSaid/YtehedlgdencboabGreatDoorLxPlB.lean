/-
  Texts: parts of texts, bounds of tokens. No program is named here.
-/
import Derived.Test.YtehedlgdencboabGreatDoorLxPlain
namespace Go.Proofs.YtehedlgdencboabGreatDoor
set_option linter.unusedVariables false
set_option linter.unusedSimpArgs false

theorem ex_left (x b : ByteArray) (i j : Nat) (h : j ≤ x.size) : (x ++ b).extract i j = x.extract i j := by
  apply ByteArray.ext
  simp [ByteArray.data_extract, ByteArray.data_append, Array.extract_append]
  have : j - x.data.size = 0 := by have : x.data.size = x.size := rfl; omega
  omega
theorem ex_right (x b : ByteArray) (i j : Nat) : (x ++ b).extract (x.size + i) (x.size + j) = b.extract i j := by
  apply ByteArray.ext
  simp [ByteArray.data_extract, ByteArray.data_append, Array.extract_append]
theorem ex_ex (s : ByteArray) (a b i j : Nat) (h : a + j ≤ b) : (s.extract a b).extract i j = s.extract (a + i) (a + j) := by
  apply ByteArray.ext
  simp [ByteArray.data_extract, Array.extract_extract]
  congr 1
  omega
theorem ex_size (s : ByteArray) (i j : Nat) (h : i ≤ j) (h2 : j ≤ s.size) : (s.extract i j).size = j - i := by
  simp [ByteArray.size_extract]; omega
theorem bt_in {s : ByteArray} {i : Nat} (h : i < s.size) : bt s i = (s[i]'h).toNat := by unfold bt; rw [dif_pos h]
theorem bt_ex (s : ByteArray) (a b i : Nat) (h : a + i < b) (h2 : b ≤ s.size) : bt (s.extract a b) i = bt s (a + i) := by
  have h3 : i < (s.extract a b).size := by rw [ex_size s a b (by omega) h2]; omega
  rw [bt_in h3, bt_in (show a + i < s.size by omega)]
  simp [ByteArray.getElem_extract]
theorem bt_left (x b : ByteArray) (i : Nat) (h : i < x.size) : bt (x ++ b) i = bt x i := by
  rw [bt_in (s := x ++ b) (i := i) (by simp; omega), bt_in h]
  simp [ByteArray.getElem_append_left, h]
theorem bt_right (x b : ByteArray) (i : Nat) (h : i < b.size) : bt (x ++ b) (x.size + i) = bt b i := by
  rw [bt_in (s := x ++ b) (i := x.size + i) (by simp; omega), bt_in h]
  simp [ByteArray.getElem_append_right]
/-- Of a token: what can be known. -/
structure OkT (m : Nat) (t : Tk) : Prop where
  k1 : 1 ≤ t.k
  k2 : t.k ≤ 4
  v : t.v ≤ 4294967295
  l1 : 1 ≤ t.l
  c1 : 1 ≤ t.c
  c2 : t.c ≤ m + 1
  sz : t.t.size ≤ m
theorem step_kind {s : ByteArray} {i : Nat} : (stepS s i).k ≤ 3 ∧ (stepS s i).v ≤ 4294967295 ∧ ((stepS s i).e = 0 ∨ (stepS s i).e = 92 ∨ (stepS s i).e = 91 ∨ (stepS s i).e = 90) := by
  unfold stepS
  split
  · simp
  · split
    · split <;> simp
    · split
      · split
        · rename_i h
          unfold numOk at h
          simp only [Bool.and_eq_true, decide_eq_true_eq] at h
          exact ⟨by simp, h.2, by simp⟩
        · simp
      · split <;> simp
theorem lineT_ok (s : ByteArray) (no : Nat) (hno : 1 ≤ no) : ∀ (n i : Nat), s.size - i = n → (∀ t ∈ (lineT s no i).1, OkT s.size t ∧ t.l = no) ∧ (lineT s no i).1.length ≤ s.size - i ∧ ((lineT s no i).2 = ⟨0, 0, 0⟩ ∨ ((lineT s no i).2.e = 92 ∨ (lineT s no i).2.e = 91 ∨ (lineT s no i).2.e = 90) ∧ (lineT s no i).2.l = no ∧ 1 ≤ (lineT s no i).2.c ∧ (lineT s no i).2.c ≤ s.size) := by
  intro n
  induction n using Nat.strongRecOn with
  | _ n ih =>
    intro i hn
    by_cases h : i < s.size ∧ bt s i ≠ 35
    · have hg := step_gt h.1
      have hl := step_le h.1
      obtain ⟨k3, kv, ke⟩ := @step_kind s i
      by_cases he : (stepS s i).e = 0
      · obtain ⟨a1, a2, a3⟩ := ih (s.size - (stepS s i).j) (by omega) (stepS s i).j rfl
        by_cases hk : (stepS s i).k = 0
        · rw [lineT_skip h.1 h.2 he hk]
          exact ⟨a1, by omega, a3⟩
        · rw [lineT_tok h.1 h.2 he hk]
          refine ⟨fun t ht => ?_, by simp only [List.length_cons]; omega, a3⟩
          rw [List.mem_cons] at ht
          rcases ht with rfl | ht
          · refine ⟨⟨Nat.one_le_iff_ne_zero.2 hk, by simp only; omega, kv, hno, by simp, by simp only; omega, ?_⟩, rfl⟩
            simp only
            rw [ex_size s _ _ (Nat.le_of_lt hg) hl]; omega
          · exact a1 t ht
      · rw [lineT_bad h.1 h.2 he]
        refine ⟨fun t ht => by simp at ht, by simp, .inr ⟨?_, rfl, by simp, ?_⟩⟩
        · rcases ke with k | k | k | k
          · exact absurd k he
          · exact .inl k
          · exact .inr (.inl k)
          · exact .inr (.inr k)
        · simp only; omega
    · rw [lineT_end h]
      exact ⟨fun t ht => by simp at ht, by simp, .inl rfl⟩
theorem lineA_ok (s : ByteArray) (no : Nat) (hno : 1 ≤ no) : (∀ t ∈ (lineA s no).1, OkT s.size t ∧ t.l = no) ∧ (lineA s no).1.length ≤ s.size ∧ ((lineA s no).2 = ⟨0, 0, 0⟩ ∨ ((lineA s no).2.e = 92 ∨ (lineA s no).2.e = 91 ∨ (lineA s no).2.e = 90 ∨ (lineA s no).2.e = 93) ∧ (lineA s no).2.l = no ∧ 1 ≤ (lineA s no).2.c ∧ (lineA s no).2.c ≤ s.size) := by
  unfold lineA
  split
  · refine ⟨fun t ht => by simp at ht, by simp, .inr ⟨by simp, rfl, by simp, by simp only; omega⟩⟩
  · obtain ⟨a1, a2, a3⟩ := lineT_ok s no hno _ 0 rfl
    refine ⟨a1, by simpa using a2, ?_⟩
    rcases a3 with a | ⟨e, a⟩
    · exact .inl a
    · exact .inr ⟨by rcases e with e | e | e <;> simp [e], a⟩
/-- What is wrong: nothing, or at a place within the text. -/
structure OkW (m : Nat) (w : Wr) : Prop where
  e : w = ⟨0, 0, 0⟩ ∨ ((w.e = 92 ∨ w.e = 91 ∨ w.e = 90 ∨ w.e = 93) ∧ 1 ≤ w.l ∧ w.l ≤ m + 1 ∧ 1 ≤ w.c ∧ w.c ≤ m)
theorem OkT.more {m n : Nat} {t : Tk} (h : OkT m t) (hm : m ≤ n) : OkT n t := ⟨h.k1, h.k2, h.v, h.l1, h.c1, Nat.le_trans h.c2 (by omega), Nat.le_trans h.sz hm⟩
theorem allT_ok (s : ByteArray) : ∀ (n i no : Nat), s.size - i = n → 1 ≤ no → no ≤ i + 1 → i ≤ s.size + 1 → (∀ t ∈ (allT s no i).1, OkT s.size t ∧ t.l ≤ s.size) ∧ (i < s.size → (allT s no i).1.length ≤ s.size - i + 1) ∧ OkW s.size (allT s no i).2 := by
  intro n
  induction n using Nat.strongRecOn with
  | _ n ih =>
    intro i no hn hno hni his
    by_cases h : i < s.size
    · have hg := endOf_ge s i
      have hl := endOf_le (Nat.le_of_lt h)
      have hz := ex_size s i (endOf s i) hg hl
      obtain ⟨a1, a2, a3⟩ := lineA_ok (s.extract i (endOf s i)) no hno
      rw [hz] at a1 a2 a3
      have hm : endOf s i - i ≤ s.size := by omega
      by_cases he : (lineA (s.extract i (endOf s i)) no).2.e = 0
      · obtain ⟨b1, b2, b3⟩ := ih (s.size - (endOf s i + 1)) (by omega) (endOf s i + 1) (no + 1) rfl (by omega) (by omega) (by omega)
        rw [allT_line h he]
        refine ⟨fun t ht => ?_, fun _ => ?_, b3⟩
        · rw [List.mem_append, List.mem_cons] at ht
          rcases ht with ht | rfl | ht
          · exact ⟨(a1 t ht).1.more hm, by rw [(a1 t ht).2]; omega⟩
          · refine ⟨⟨by simp [endT], by simp [endT], by simp [endT], hno, by simp [endT], by simp only [endT]; omega, ?_⟩, by simp only [endT]; omega⟩
            simp only [endT]
            split
            · rw [ex_size s _ _ (by omega) (by omega)]; omega
            · simp
          · exact b1 t ht
        · rw [List.length_append, List.length_cons]
          by_cases h2 : endOf s i + 1 < s.size
          · have := b2 h2; omega
          · rw [allT_end h2]; simp; omega
      · rw [allT_bad h he]
        refine ⟨fun t ht => ⟨(a1 t ht).1.more hm, by rw [(a1 t ht).2]; omega⟩, fun _ => by omega, ⟨?_⟩⟩
        rcases a3 with a | ⟨a, b, c, d⟩
        · rw [a] at he; exact absurd rfl he
        · exact .inr ⟨a, by omega, by omega, c, by omega⟩
    · rw [allT_end h]
      exact ⟨fun t ht => by simp at ht, fun h' => absurd h' h, ⟨.inl rfl⟩⟩
theorem lexT_ok (s : ByteArray) (hs : s.size ≤ 65536) : (∀ t ∈ (lexT s).1, OkT 65536 t ∧ t.l ≤ 65536) ∧ (lexT s).1.length ≤ s.size + 1 ∧ OkW 65536 (lexT s).2 := by
  unfold lexT
  rw [if_neg (by omega)]
  obtain ⟨a1, a2, a3⟩ := allT_ok s _ 0 1 rfl (by omega) (by omega) (by omega)
  refine ⟨fun t ht => ⟨(a1 t ht).1.more hs, by have := (a1 t ht).2; omega⟩, ?_, ⟨?_⟩⟩
  · by_cases h : 0 < s.size
    · have := a2 h; omega
    · rw [allT_end h]; simp
  · rcases a3.e with e | ⟨e, b, c, d, f⟩
    · exact .inl e
    · exact .inr ⟨e, b, by omega, d, by omega⟩
end Go.Proofs.YtehedlgdencboabGreatDoor
