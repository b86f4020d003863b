/-
  What the landed scanner's helpers reckon, in the words of the texts (bt, runB, numF): kinds of bytes, a row of one kind, a number by its digits, a line's end by the first byte 10. No program is named here.
-/
import Derived.Test.YtehedlgdencboabGreatDoorLxPlB
import Derived.Lib.ParseIntB
import Derived.Lib.Strings
import Derived.Lib.Bytealg
namespace Go.Proofs.YtehedlgdencboabGreatDoor
set_option linter.unusedVariables false
set_option linter.unusedSimpArgs false

/-- What may begin with a byte. -/
def kd (c : Nat) : Nat := if 97 ≤ c ∧ c ≤ 122 then 3 else if 48 ≤ c ∧ c ≤ 57 then 4 else if c = 46 ∨ c = 47 ∨ c = 58 ∨ c = 42 then 5 else if c = 32 ∨ c = 9 ∨ c = 13 then 1 else if c = 35 then 2 else 0
theorem kd_le (c : Nat) : kd c ≤ 5 := by unfold kd; (repeat' split) <;> omega
theorem kd3 (c : Nat) : letterB c = decide (kd c = 3) := by
  unfold letterB kd
  rw [decide_eq_decide]
  (repeat' split) <;> omega
theorem kd4 (c : Nat) : digitB c = decide (kd c = 4) := by
  unfold digitB kd
  rw [decide_eq_decide]
  (repeat' split) <;> omega
theorem kd1 (c : Nat) : blankB c = decide (kd c = 1) := by
  unfold blankB kd
  rw [Bool.eq_iff_iff]
  simp only [Bool.or_eq_true, decide_eq_true_eq]
  (repeat' split) <;> omega
theorem kd5 (c : Nat) : signB c = decide (kd c = 5) := by
  unfold signB kd
  rw [Bool.eq_iff_iff]
  simp only [Bool.or_eq_true, decide_eq_true_eq]
  (repeat' split) <;> omega
theorem kd2 (c : Nat) : kd c = 2 ↔ c = 35 := by
  unfold kd
  (repeat' split) <;> omega
/-- Where the row of one kind that begins at a place ends. -/
def rowE (s : ByteArray) (i : Nat) : Nat := runB (fun k => decide (kd (bt s k) = kd (bt s i))) i s.size
theorem rowE_gt {s : ByteArray} {i : Nat} (h : i < s.size) : i < rowE s i := run_gt (p := fun k => decide (kd (bt s k) = kd (bt s i))) h (by simp)
theorem rowE_le {s : ByteArray} {i : Nat} (h : i < s.size) : rowE s i ≤ s.size := run_le _ (Nat.le_of_lt h)
theorem rowE3 {s : ByteArray} {i : Nat} (h : kd (bt s i) = 3) : runB (fun k => letterB (bt s k)) i s.size = rowE s i := by
  unfold rowE
  rw [h, show (fun k => letterB (bt s k)) = fun k => decide (kd (bt s k) = 3) from funext fun k => kd3 _]
theorem rowE4 {s : ByteArray} {i : Nat} (h : kd (bt s i) = 4) : runB (fun k => digitB (bt s k)) i s.size = rowE s i := by
  unfold rowE
  rw [h, show (fun k => digitB (bt s k)) = fun k => decide (kd (bt s k) = 4) from funext fun k => kd4 _]
theorem step0 {s : ByteArray} {i : Nat} (h : kd (bt s i) = 0 ∨ kd (bt s i) = 2) : stepS s i = ⟨0, i + 1, 0, 90⟩ := by
  unfold stepS
  rw [kd1, kd3, kd4, kd5]
  rcases h with h | h <;> rw [h] <;> rfl
theorem step1 {s : ByteArray} {i : Nat} (h : kd (bt s i) = 1) : stepS s i = ⟨0, i + 1, 0, 0⟩ := by
  unfold stepS
  rw [kd1, h]; rfl
theorem step3 {s : ByteArray} {i : Nat} (h : kd (bt s i) = 3) : stepS s i = ⟨1, rowE s i, 0, if 16 < rowE s i - i then 92 else 0⟩ := by
  unfold stepS
  rw [rowE3 h, kd1, kd3, h]; rfl
theorem step4 {s : ByteArray} {i : Nat} (h : kd (bt s i) = 4) : stepS s i = if numOk s i (rowE s i) then ⟨2, rowE s i, numF s i (rowE s i - i), 0⟩ else ⟨2, rowE s i, 0, 91⟩ := by
  unfold stepS
  rw [rowE4 h, kd1, kd3, kd4, h]; rfl
theorem step5 {s : ByteArray} {i : Nat} (h : kd (bt s i) = 5) : stepS s i = ⟨3, i + 1, 0, 0⟩ := by
  unfold stepS
  rw [kd1, kd3, kd4, kd5, h]; rfl
/-- The same row, in the rest of the text. -/
theorem runB_shift {p q : Nat → Bool} {e a : Nat} : ∀ (n i : Nat), e - i = n → (∀ k, i ≤ k → k < e → p k = q (a + k)) → a + runB p i e = runB q (a + i) (a + e)
  | n, i, hn, h => by
    by_cases c : i < e ∧ p i = true
    · have hq : q (a + i) = true := by rw [← h i (Nat.le_refl _) c.1]; exact c.2
      have hlt : a + i < a + e := by have := c.1; omega
      rw [runB_go c.1 c.2, runB_go hlt hq]
      match n, hn with
      | n + 1, hn => exact runB_shift n (i + 1) (by omega) (fun k h1 h2 => h k (by omega) h2)
      | 0, hn => have := c.1; omega
    · have c2 : ¬ (a + i < a + e ∧ q (a + i) = true) := by
        intro c'
        exact c ⟨by omega, by rw [h i (Nat.le_refl _) (by omega)]; exact c'.2⟩
      rw [runB_end c, runB_end c2]
theorem runB_fit {p q : Nat → Bool} {e : Nat} {i : Nat} (h : ∀ k, i ≤ k → k < e → p k = q k) : runB p i e = runB q i e := by
  have := runB_shift (p := p) (q := q) (e := e) (a := 0) _ i rfl (fun k h1 h2 => by rw [Nat.zero_add]; exact h k h1 h2)
  simpa using this
theorem rowE_rest {s : ByteArray} {i : Nat} (h : i < s.size) : i + rowE (s.extract i s.size) 0 = rowE s i := by
  have hz : (s.extract i s.size).size = s.size - i := ex_size s i s.size (by omega) (Nat.le_refl _)
  unfold rowE
  rw [hz]
  have := runB_shift (p := fun k => decide (kd (bt (s.extract i s.size) k) = kd (bt (s.extract i s.size) 0))) (q := fun k => decide (kd (bt s k) = kd (bt s i))) (e := s.size - i) (a := i) _ 0 rfl (fun k h1 h2 => by
    rw [bt_ex s i s.size k (by omega) (Nat.le_refl _), bt_ex s i s.size 0 (by omega) (Nat.le_refl _), Nat.add_zero])
  rw [this, Nat.add_zero, show i + (s.size - i) = s.size by omega]
/-- A line's end in the rest of the text. -/
theorem endOf_rest {s : ByteArray} {i : Nat} (h : i ≤ s.size) : i + endOf (s.extract i s.size) 0 = endOf s i := by
  have hz : (s.extract i s.size).size = s.size - i := ex_size s i s.size (by omega) (Nat.le_refl _)
  unfold endOf
  rw [hz]
  have := runB_shift (p := fun k => decide (bt (s.extract i s.size) k ≠ 10)) (q := fun k => decide (bt s k ≠ 10)) (e := s.size - i) (a := i) _ 0 rfl (fun k h1 h2 => by
    rw [bt_ex s i s.size k (by omega) (Nat.le_refl _)])
  rw [this, Nat.add_zero, show i + (s.size - i) = s.size by omega]
theorem bt_get {s : ByteArray} {l : List UInt8} (hl : s.data.toList = l) {k : Nat} (h : k < s.size) : ∃ c, l[k]? = some c ∧ c.toNat = bt s k := by
  subst hl
  refine ⟨s[k]'h, ?_, (bt_in h).symm⟩
  have h2 : k < s.data.size := h
  rw [Array.getElem?_toList, Array.getElem?_eq_getElem h2]
  rfl
theorem size_len (s : ByteArray) : s.data.toList.length = s.size := by simp only [Array.length_toList]; rfl
/-- The first byte 10. -/
theorem indexByte_from (s : ByteArray) : ∀ (n i : Nat), s.size - i = n → i ≤ s.size → Lib.indexByte (s.data.toList.drop i) 10 = if endOf s i < s.size then ((endOf s i - i : Nat) : Int) else -1
  | 0, i, hn, hi => by
    have e : i = s.size := by omega
    subst e
    rw [List.drop_eq_nil_of_le (by rw [size_len]; exact Nat.le_refl _)]
    have : endOf s s.size = s.size := runB_end (by omega)
    rw [this]
    simp [Lib.indexByte]
  | n + 1, i, hn, hi => by
    have hlt : i < s.size := by omega
    obtain ⟨c, hc1, hc2⟩ := bt_get (s := s) rfl hlt
    have hdr : s.data.toList.drop i = c :: s.data.toList.drop (i + 1) := by
      have h3 : i < s.data.toList.length := by rw [size_len]; exact hlt
      rw [List.drop_eq_getElem_cons h3]
      congr 1
      rw [List.getElem?_eq_getElem h3] at hc1
      exact Option.some.inj hc1
    have ih := indexByte_from s n (i + 1) (by omega) (by omega)
    rw [hdr]
    unfold Lib.indexByte
    by_cases h10 : bt s i = 10
    · have e : endOf s i = i := runB_end (by simp [h10])
      have hcc : c = 10 := UInt8.toNat_inj.1 (by rw [hc2, h10]; rfl)
      rw [e, if_pos hlt, if_pos (by simp [hcc])]
      simp
    · have e : endOf s i = endOf s (i + 1) := runB_go hlt (by simp [h10])
      have hcc : c ≠ 10 := fun h => h10 (by rw [← hc2, h]; rfl)
      have hge := endOf_ge s (i + 1)
      rw [if_neg (by simpa using hcc), ih, e]
      by_cases hh : endOf s (i + 1) < s.size
      · rw [if_pos hh, if_pos hh, if_neg (by simp)]
        omega
      · rw [if_neg hh, if_neg hh]; simp
theorem indexByte_is (s : ByteArray) : Lib.indexByte s.data.toList 10 = if endOf s 0 < s.size then ((endOf s 0 : Nat) : Int) else -1 := by
  have := indexByte_from s _ 0 rfl (Nat.zero_le _)
  simpa using this
/-- Digits. -/
def foldN (acc : Nat) : List UInt8 → Nat
  | [] => acc
  | c :: r => foldN (acc * 10 + (c.toNat - 48)) r
theorem foldN_ge : ∀ (l : List UInt8) (acc : Nat), acc ≤ foldN acc l
  | [], acc => Nat.le_refl _
  | c :: r, acc => Nat.le_trans (by omega) (foldN_ge r (acc * 10 + (c.toNat - 48)))
theorem parse_digits : ∀ (l : List UInt8) (acc : Nat), (∀ c ∈ l, 48 ≤ c.toNat ∧ c.toNat ≤ 57) → acc ≤ 4294967295 → Lib.parseUintM 4294967295 acc l = if foldN acc l ≤ 4294967295 then .ok (foldN acc l) else .range
  | [], acc, _, h => by
    show Lib.NumEnd.ok acc = _
    rw [if_pos (show foldN acc [] ≤ 4294967295 from h)]; rfl
  | c :: r, acc, hd, h => by
    have hc := hd c (List.mem_cons_self ..)
    unfold Lib.parseUintM
    rw [if_pos hc, if_neg (by omega)]
    by_cases hm : 4294967295 < acc * 10 + (c.toNat - 48)
    · have := foldN_ge r (acc * 10 + (c.toNat - 48))
      rw [if_pos hm, if_neg (by show ¬ foldN _ r ≤ _; omega)]
    · rw [if_neg hm]
      exact parse_digits r _ (fun c' h' => hd c' (List.mem_cons_of_mem _ h')) (by omega)
theorem foldN_snoc : ∀ (l : List UInt8) (acc : Nat) (c : UInt8), foldN acc (l ++ [c]) = foldN acc l * 10 + (c.toNat - 48)
  | [], acc, c => rfl
  | b :: r, acc, c => foldN_snoc r _ c
theorem foldN_is (s : ByteArray) (i : Nat) : ∀ n, i + n ≤ s.size → foldN 0 ((s.data.toList.drop i).take n) = numF s i n
  | 0, _ => rfl
  | n + 1, h => by
    obtain ⟨c, hc1, hc2⟩ := bt_get (s := s) rfl (show i + n < s.size by omega)
    have h3 : n < (s.data.toList.drop i).length := by rw [List.length_drop, size_len]; omega
    have e : (s.data.toList.drop i).take (n + 1) = (s.data.toList.drop i).take n ++ [c] := by
      rw [List.take_succ_eq_append_getElem h3]
      congr 2
      rw [List.getElem_drop]
      rw [List.getElem?_eq_getElem (by rw [size_len]; omega)] at hc1
      exact Option.some.inj hc1
    rw [e, foldN_snoc, foldN_is s i n (by omega), hc2]
    show numF s i n * 10 + (bt s (i + n) - 48) = 10 * numF s i n + (bt s (i + n) - 48)
    omega
theorem ex_list (s : ByteArray) (i j : Nat) : (s.extract i j).data.toList = (s.data.toList.drop i).take (j - i) := by
  rw [ByteArray.data_extract, Array.toList_extract]
  try simp
theorem numF_fit {s t : ByteArray} {i j : Nat} : ∀ n, (∀ k, k < n → bt s (i + k) = bt t (j + k)) → numF s i n = numF t j n
  | 0, _ => rfl
  | n + 1, h => by
    show 10 * _ + _ = 10 * _ + _
    rw [numF_fit n (fun k hk => h k (by omega)), h n (by omega)]
/-- What a row of digits says, as the library reads it. -/
theorem parse_is {d : ByteArray} (h0 : 0 < d.size) (hd : ∀ k, k < d.size → kd (bt d k) = 4) : Lib.parseUintB 32 d.data.toList = if numF d 0 d.size ≤ 4294967295 then .ok (numF d 0 d.size) else .range := by
  unfold Lib.parseUintB
  have hne : d.data.toList ≠ [] := by
    intro h
    have := size_len d
    rw [h] at this
    simp at this
    omega
  rw [if_neg hne]
  have hf := foldN_is d 0 d.size (by omega)
  rw [List.drop_zero, List.take_of_length_le (by rw [size_len]; exact Nat.le_refl _)] at hf
  rw [← hf]
  refine parse_digits d.data.toList 0 (fun c hc => ?_) (by omega)
  obtain ⟨k, hk, rfl⟩ := List.mem_iff_getElem.1 hc
  rw [size_len] at hk
  obtain ⟨c, hc1, hc2⟩ := bt_get (s := d) rfl hk
  rw [List.getElem?_eq_getElem (by rw [size_len]; exact hk)] at hc1
  have := hd k hk
  rw [Option.some.inj hc1, hc2]
  have h4 := kd4 (bt d k)
  rw [this] at h4
  simpa [digitB] using h4
/-- A row of one kind that is cut off. -/
theorem row_kind {s : ByteArray} {i : Nat} (h : i < s.size) : ∀ k, k < (s.extract i (rowE s i)).size → kd (bt (s.extract i (rowE s i)) k) = kd (bt s i) := by
  intro k hk
  have h1 := rowE_gt h
  have h2 := rowE_le h
  rw [ex_size s i _ (by omega) h2] at hk
  rw [bt_ex s i _ k (by omega) h2]
  have := run_all (p := fun k => decide (kd (bt s k) = kd (bt s i))) (e := s.size) _ i (i + k) rfl (by omega) (show i + k < rowE s i by omega)
  simpa using this
/-- What valueOf answers: the value, and the error. -/
def valV (d : ByteArray) : Nat := if numOk d 0 d.size then numF d 0 d.size else 0
def valE (d : ByteArray) : Nat := if numOk d 0 d.size then 0 else 91
theorem val_row {s : ByteArray} {i : Nat} (h : i < s.size) (hk : kd (bt s i) = 4) : stepS s i = ⟨2, rowE s i, valV (s.extract i (rowE s i)), valE (s.extract i (rowE s i))⟩ := by
  have h1 := rowE_gt h
  have h2 := rowE_le h
  have hz := ex_size s i (rowE s i) (by omega) h2
  have hn : numF (s.extract i (rowE s i)) 0 (rowE s i - i) = numF s i (rowE s i - i) := numF_fit _ (fun k hk => by
    rw [Nat.zero_add, bt_ex s i _ k (by omega) h2])
  have ho : numOk (s.extract i (rowE s i)) 0 (rowE s i - i) = numOk s i (rowE s i) := by
    unfold numOk
    rw [Nat.sub_zero, hn, bt_ex s i _ 0 (by omega) h2, Nat.add_zero]
  rw [step4 hk]
  unfold valV valE
  rw [hz, ho, hn]
  split <;> rfl
/-- A line without its end. -/
theorem trim_is (r : ByteArray) : (⟨(Lib.trimSuffix r.data.toList [10]).toArray⟩ : ByteArray) = if 0 < r.size ∧ bt r (r.size - 1) = 10 then r.extract 0 (r.size - 1) else r := by
  unfold Lib.trimSuffix
  by_cases h : 0 < r.size ∧ bt r (r.size - 1) = 10
  · obtain ⟨c, hc1, hc2⟩ := bt_get (s := r) rfl (show r.size - 1 < r.size by omega)
    have hcc : c = 10 := UInt8.toNat_inj.1 (by rw [hc2, h.2]; rfl)
    have hs : Lib.hasSuffix r.data.toList [10] = true := by
      unfold Lib.hasSuffix
      have e : r.data.toList.drop (r.size - 1) = [10] := by
        have h3 : r.size - 1 < r.data.toList.length := by rw [size_len]; omega
        rw [List.drop_eq_getElem_cons h3, List.drop_eq_nil_of_le (by rw [size_len]; omega)]
        rw [List.getElem?_eq_getElem h3] at hc1
        rw [Option.some.inj hc1, hcc]
      rw [List.isSuffixOf_iff_suffix]
      exact ⟨r.data.toList.take (r.size - 1), by rw [← e]; exact List.take_append_drop _ _⟩
    rw [if_pos hs, if_pos h]
    apply ByteArray.ext
    apply Array.toList_inj.1
    rw [ex_list]
    simp [size_len]
  · have hs : Lib.hasSuffix r.data.toList [10] = false := by
      rw [Bool.eq_false_iff]
      intro hh
      apply h
      unfold Lib.hasSuffix at hh
      rw [List.isSuffixOf_iff_suffix] at hh
      obtain ⟨h1, h2⟩ := hh
      have hlen := congrArg List.length h2
      rw [size_len] at hlen
      simp at hlen
      have h0 : 0 < r.size := by omega
      refine ⟨h0, ?_⟩
      obtain ⟨c, hc1, hc2⟩ := bt_get (s := r) h2.symm (show r.size - 1 < r.size by omega)
      rw [show r.size - 1 = h1.length by omega] at hc1 ⊢
      rw [show r.size - 1 = h1.length by omega] at hc2
      simp at hc1
      rw [← hc2, ← hc1]
      rfl
    rw [hs, if_neg (by simp), if_neg h]
def bodyOf (r : ByteArray) : ByteArray := if 0 < r.size ∧ bt r (r.size - 1) = 10 then r.extract 0 (r.size - 1) else r
theorem bodyOf_le (r : ByteArray) : (bodyOf r).size ≤ r.size := by
  unfold bodyOf
  split
  · rw [ex_size r 0 _ (by omega) (by omega)]; omega
  · exact Nat.le_refl _
/-- A line with its end: its tokens, and what is wrong. -/
def scanL (r : ByteArray) (no : Nat) : List Tk × Wr := if (lineA (bodyOf r) no).2.e ≠ 0 then lineA (bodyOf r) no else ((lineA (bodyOf r) no).1 ++ [⟨4, r.extract (bodyOf r).size r.size, 0, no, (bodyOf r).size + 1⟩], ⟨0, 0, 0⟩)
/-- Where a line with its end ends. -/
def rowR (s : ByteArray) (i : Nat) : Nat := if endOf s i < s.size then endOf s i + 1 else s.size
theorem rowR_gt {s : ByteArray} {i : Nat} (h : i < s.size) : i < rowR s i := by
  have := endOf_ge s i
  unfold rowR; split <;> omega
theorem rowR_le (s : ByteArray) (i : Nat) : rowR s i ≤ s.size := by unfold rowR; split <;> omega
theorem body_is {s : ByteArray} {i : Nat} (h : i < s.size) : bodyOf (s.extract i (rowR s i)) = s.extract i (endOf s i) := by
  have hge := endOf_ge s i
  have hle := endOf_le (s := s) (i := i) (Nat.le_of_lt h)
  have h1 := rowR_gt h
  have hz := ex_size s i (rowR s i) (by omega) (rowR_le s i)
  unfold bodyOf
  rw [hz]
  by_cases hc : endOf s i < s.size
  · have hR : rowR s i = endOf s i + 1 := if_pos hc
    have h10 := run_stop (p := fun k => decide (bt s k ≠ 10)) (e := s.size) _ i rfl hc
    have h10' : bt s (endOf s i) = 10 := by simpa [endOf] using h10
    rw [if_pos ⟨by omega, by rw [bt_ex s i _ _ (by omega) (rowR_le s i), show i + (rowR s i - i - 1) = endOf s i by omega]; exact h10'⟩]
    rw [ex_ex s i _ 0 _ (by omega), Nat.add_zero, show i + (rowR s i - i - 1) = endOf s i by omega]
  · have hR : rowR s i = s.size := if_neg hc
    have hE : endOf s i = s.size := by omega
    rw [if_neg, hR, hE]
    rintro ⟨_, h2⟩
    rw [bt_ex s i _ _ (by omega) (rowR_le s i)] at h2
    have := run_all (p := fun k => decide (bt s k ≠ 10)) (e := s.size) _ i (i + (rowR s i - i - 1)) rfl (by omega) (show _ < endOf s i by omega)
    simp [h2] at this
theorem endtok_is {s : ByteArray} {i no : Nat} (h : i < s.size) : (⟨4, (s.extract i (rowR s i)).extract (bodyOf (s.extract i (rowR s i))).size (s.extract i (rowR s i)).size, 0, no, (bodyOf (s.extract i (rowR s i))).size + 1⟩ : Tk) = endT s no i := by
  have hge := endOf_ge s i
  have hle := endOf_le (s := s) (i := i) (Nat.le_of_lt h)
  have h1 := rowR_gt h
  have hz := ex_size s i (rowR s i) (by omega) (rowR_le s i)
  rw [body_is h, hz, ex_size s i (endOf s i) hge hle, ex_ex s i _ _ _ (by omega), show i + (endOf s i - i) = endOf s i by omega, show i + (rowR s i - i) = rowR s i by omega]
  unfold endT
  congr 1
  unfold rowR
  split
  · rfl
  · rw [show endOf s i = s.size by omega]
    apply ByteArray.ext
    rw [ByteArray.data_extract]
    apply Array.toList_inj.1
    simp
theorem all_bad {s : ByteArray} {no i : Nat} (h : i < s.size) (he : (scanL (s.extract i (rowR s i)) no).2.e ≠ 0) : allT s no i = scanL (s.extract i (rowR s i)) no := by
  have hc : (lineA (s.extract i (endOf s i)) no).2.e ≠ 0 := by
    intro hc
    apply he
    unfold scanL
    rw [body_is h, if_neg (by simpa using hc)]
  rw [allT_bad h hc]
  unfold scanL
  rw [body_is h, if_pos hc]
theorem all_line {s : ByteArray} {no i : Nat} (h : i < s.size) (he : (scanL (s.extract i (rowR s i)) no).2.e = 0) : allT s no i = ((scanL (s.extract i (rowR s i)) no).1 ++ (allT s (no + 1) (rowR s i)).1, (allT s (no + 1) (rowR s i)).2) := by
  have hc : (lineA (s.extract i (endOf s i)) no).2.e = 0 := by
    by_cases hc : (lineA (s.extract i (endOf s i)) no).2.e = 0
    · exact hc
    · unfold scanL at he
      rw [body_is h, if_pos hc] at he
      exact he
  have hnext : allT s (no + 1) (endOf s i + 1) = allT s (no + 1) (rowR s i) := by
    unfold rowR
    split
    · rfl
    · rw [allT_end (by omega), allT_end (by omega)]
  rw [allT_line h hc, hnext]
  have e : (scanL (s.extract i (rowR s i)) no).1 = (lineA (s.extract i (endOf s i)) no).1 ++ [endT s no i] := by
    have ht := endtok_is (s := s) (i := i) (no := no) h
    unfold scanL
    rw [ht, body_is h, if_neg (by simpa using hc)]
  rw [e, List.append_assoc]
  rfl
theorem scanL_bad {r : ByteArray} {no : Nat} (h : (scanL r no).2.e = 0) : (scanL r no).2 = ⟨0, 0, 0⟩ := by
  unfold scanL at h ⊢
  split
  · rename_i hc; rw [if_pos hc] at h; exact absurd h hc
  · rfl
end Go.Proofs.YtehedlgdencboabGreatDoor
