/-
  Stage 10 ahead: a line that is put together out of pieces (blanks, words, numbers, signs) has just these pieces' tokens; the digits of a number. No program is named here.
-/
import Derived.Test.YtehedlgdencboabGreatDoorLxPlN
import Derived.Lib.ItoaNum
namespace Go.Proofs.YtehedlgdencboabGreatDoor
set_option linter.unusedVariables false
set_option linter.unusedSimpArgs false

/-- Digits. -/
theorem u8_dig {d : Nat} (h : d < 10) : (UInt8.ofNat (48 + d)).toNat = 48 + d := by
  rw [UInt8.toNat_ofNat']
  exact Nat.mod_eq_of_lt (by omega)
theorem dec_small {u : Nat} (h : u < 10) : Lib.decDigits u = [UInt8.ofNat (48 + u)] := Lib.decDigits_one h
theorem dec_great {u : Nat} (h : ¬ u < 10) : Lib.decDigits u = Lib.decDigits (u / 10) ++ [UInt8.ofNat (48 + u % 10)] := by rw [Lib.decDigits, dif_neg h]
theorem dec_digit : ∀ (n u : Nat), u ≤ n → ∀ c ∈ Lib.decDigits u, 48 ≤ c.toNat ∧ c.toNat ≤ 57
  | n, u, hn, c, hc => by
    by_cases h : u < 10
    · rw [dec_small h, List.mem_singleton] at hc
      rw [hc, u8_dig h]; omega
    · match n, hn with
      | 0, hn => omega
      | n + 1, hn =>
        rw [dec_great h, List.mem_append, List.mem_singleton] at hc
        rcases hc with hc | hc
        · exact dec_digit n (u / 10) (by omega) c hc
        · rw [hc, u8_dig (Nat.mod_lt _ (by decide))]
          have := Nat.mod_lt u (show 10 > 0 by decide)
          omega
theorem dec_fold : ∀ (n u : Nat), u ≤ n → foldN 0 (Lib.decDigits u) = u
  | n, u, hn => by
    by_cases h : u < 10
    · rw [dec_small h]
      show 0 * 10 + ((UInt8.ofNat (48 + u)).toNat - 48) = u
      rw [u8_dig h]; omega
    · match n, hn with
      | 0, hn => omega
      | n + 1, hn =>
        rw [dec_great h, foldN_snoc, dec_fold n (u / 10) (by omega), u8_dig (Nat.mod_lt _ (by decide))]
        omega
theorem dec_ne (u : Nat) : Lib.decDigits u ≠ [] := by
  by_cases h : u < 10
  · rw [dec_small h]; simp
  · rw [dec_great h]; simp
/-- No nought ahead, but in 0 itself. -/
theorem dec_head : ∀ (n u : Nat), u ≤ n → 0 < u → ∀ c, (Lib.decDigits u)[0]? = some c → c.toNat ≠ 48
  | n, u, hn, h0, c, hc => by
    by_cases h : u < 10
    · rw [dec_small h] at hc
      obtain rfl : UInt8.ofNat (48 + u) = c := by simpa using hc
      rw [u8_dig h]; omega
    · match n, hn with
      | 0, hn => omega
      | n + 1, hn =>
        have hne : 0 < (Lib.decDigits (u / 10)).length := List.length_pos_iff.2 (dec_ne _)
        rw [dec_great h, List.getElem?_append_left hne] at hc
        exact dec_head n (u / 10) (by omega) (by omega) c hc
theorem dec_one {u : Nat} (h : 1 < (Lib.decDigits u).length) : 0 < u := by
  by_cases h0 : u < 10
  · rw [dec_small h0] at h; simp at h
  · omega
/-- A row of one kind. -/
theorem rowE_is {s : ByteArray} {i m K : Nat} (hm : 0 < m) (hi : i + m ≤ s.size) (hk : ∀ k, k < m → kd (bt s (i + k)) = K) (he : i + m = s.size ∨ kd (bt s (i + m)) ≠ K) : rowE s i = i + m := by
  have h0 : kd (bt s i) = K := by have := hk 0 hm; rwa [Nat.add_zero] at this
  have key : ∀ n k, m - k = n → k ≤ m → runB (fun k => decide (kd (bt s k) = kd (bt s i))) (i + k) s.size = i + m := by
    intro n
    induction n with
    | zero =>
      intro k h1 h2
      rw [show k = m by omega]
      refine runB_end fun c => ?_
      rcases he with he | he
      · omega
      · exact he (by have := c.2; rw [decide_eq_true_eq, h0] at this; exact this)
    | succ n ih =>
      intro k h1 h2
      rw [runB_go (by omega) (by rw [decide_eq_true_eq, h0]; exact hk k (by omega))]
      exact ih (k + 1) (by omega) (by omega)
  have := key m 0 (by omega) (by omega)
  rwa [Nat.add_zero] at this
/-- A piece of a line: its kind (0: one blank), its bytes, its value. -/
structure Pc where
  k : Nat
  t : List UInt8
  v : Nat
/-- The kind of a piece's bytes. -/
def kdP (p : Pc) : Nat := if p.k = 0 then 1 else p.k + 2
structure OkP (p : Pc) : Prop where
  k : p.k ≤ 3
  ne : 0 < p.t.length
  kd : ∀ c ∈ p.t, kd c.toNat = kdP p
  one : p.k = 0 ∨ p.k = 3 → p.t.length = 1
  word : p.k = 1 → p.t.length ≤ 16
  num : p.k = 2 → p.t = Lib.decDigits p.v ∧ p.v ≤ 4294967295
  val : p.k ≠ 2 → p.v = 0
/-- Words and numbers are not followed by their like. -/
def OkL : List Pc → Prop
  | [] => True
  | [p] => OkP p
  | p :: q :: l => OkP p ∧ (p.k = 1 ∨ p.k = 2 → q.k ≠ p.k) ∧ OkL (q :: l)
def textP (l : List Pc) : List UInt8 := l.flatMap (·.t)
def toksP (no : Nat) : Nat → List Pc → List Tk
  | _, [] => []
  | i, p :: l => if p.k = 0 then toksP no (i + p.t.length) l else ⟨p.k, ⟨p.t.toArray⟩, p.v, no, i + 1⟩ :: toksP no (i + p.t.length) l
theorem toksP_blank {no i : Nat} {p : Pc} {l : List Pc} (h : p.k = 0) : toksP no i (p :: l) = toksP no (i + p.t.length) l := if_pos h
theorem toksP_tok {no i : Nat} {p : Pc} {l : List Pc} (h : p.k ≠ 0) : toksP no i (p :: l) = ⟨p.k, ⟨p.t.toArray⟩, p.v, no, i + 1⟩ :: toksP no (i + p.t.length) l := if_neg h
theorem OkL.head {p : Pc} {l : List Pc} (h : OkL (p :: l)) : OkP p := by
  cases l with
  | nil => exact h
  | cons q l => exact h.1
theorem OkL.tail {p : Pc} {l : List Pc} (h : OkL (p :: l)) : OkL l := by
  cases l with
  | nil => trivial
  | cons q l => exact h.2.2
theorem bt_drop {s : ByteArray} {i k : Nat} {l : List UInt8} {c : UInt8} (h : s.data.toList.drop i = l) (hc : l[k]? = some c) : bt s (i + k) = c.toNat ∧ i + k < s.size := by
  have hk : s.data.toList[i + k]? = some c := by rw [← h, List.getElem?_drop] at hc; exact hc
  have hlt : i + k < s.size := by
    have := (List.getElem?_eq_some_iff.1 hk).1
    rwa [size_len] at this
  obtain ⟨d, hd1, hd2⟩ := bt_get (s := s) rfl hlt
  rw [hd1] at hk
  obtain rfl := Option.some.inj hk
  exact ⟨hd2.symm, hlt⟩
theorem ex_is {s : ByteArray} {i m : Nat} {l : List UInt8} (h : s.data.toList.drop i = l) : s.extract i (i + m) = ⟨(l.take m).toArray⟩ := by
  apply ByteArray.ext
  apply Array.toList_inj.1
  rw [ex_list, h, Nat.add_sub_cancel_left]
theorem kdP_ne {p q : Pc} (hp : p.k ≤ 3) (hq : q.k ≤ 3) (h : q.k ≠ p.k) : kdP q ≠ kdP p := by
  unfold kdP
  split <;> split <;> omega
/-- What stands at a piece's place. -/
theorem step_piece {s : ByteArray} {i : Nat} {p : Pc} {l : List Pc} (h : s.data.toList.drop i = textP (p :: l)) (ho : OkL (p :: l)) : stepS s i = ⟨p.k, i + p.t.length, p.v, 0⟩ ∧ i + p.t.length ≤ s.size ∧ bt s i ≠ 35 ∧ i < s.size := by
  have hp := ho.head
  have ht : textP (p :: l) = p.t ++ textP l := rfl
  have hb : ∀ k, (hk : k < p.t.length) → bt s (i + k) = (p.t[k]'hk).toNat ∧ i + k < s.size := fun k hk => bt_drop h (by rw [ht, List.getElem?_append_left hk, List.getElem?_eq_getElem hk])
  have hkd : ∀ k, k < p.t.length → kd (bt s (i + k)) = kdP p := fun k hk => by rw [(hb k hk).1]; exact hp.kd _ (List.getElem_mem hk)
  have h0 : kd (bt s i) = kdP p := by have := hkd 0 hp.ne; rwa [Nat.add_zero] at this
  have hlt : i < s.size := by have := (hb 0 hp.ne).2; omega
  have hle : i + p.t.length ≤ s.size := by have := (hb (p.t.length - 1) (by have := hp.ne; omega)).2; have := hp.ne; omega
  have h35 : bt s i ≠ 35 := fun e => by
    have h2 := (kd2 _).2 e
    rw [h0] at h2
    unfold kdP at h2
    have := hp.k
    split at h2 <;> omega
  refine ⟨?_, hle, h35, hlt⟩
  -- where a row of its kind ends
  have hend : (p.k = 1 ∨ p.k = 2) → rowE s i = i + p.t.length := fun hk => by
    refine rowE_is hp.ne hle hkd ?_
    cases l with
    | nil =>
      left
      have hl := congrArg List.length h
      rw [List.length_drop, size_len, ht] at hl
      simp [textP] at hl
      omega
    | cons q l =>
      right
      have hq := ho.tail.head
      obtain ⟨c, hc⟩ : ∃ c, q.t[0]? = some c := ⟨q.t[0]'hq.ne, List.getElem?_eq_getElem hq.ne⟩
      have hcc := bt_drop (k := p.t.length) (c := c) h (by
        rw [ht, List.getElem?_append_right (Nat.le_refl _), Nat.sub_self]
        show (q.t ++ textP l)[0]? = some c
        rw [List.getElem?_append_left hq.ne]; exact hc)
      rw [hcc.1, hq.kd c (List.mem_of_getElem? hc)]
      exact kdP_ne hp.k hq.k (ho.2.1 hk)
  have hk3 := hp.k
  have hc4 : p.k = 0 ∨ p.k = 1 ∨ p.k = 2 ∨ p.k = 3 := by omega
  rcases hc4 with e | e | e | e
  · rw [step1 (by rw [h0]; unfold kdP; rw [if_pos e]), hp.one (.inl e), e, hp.val (by omega)]
  · rw [step3 (by rw [h0]; unfold kdP; rw [if_neg (by omega)]; omega), hend (.inl e), e, hp.val (by omega), if_neg (by have := hp.word e; omega)]
  · have hk4 : kd (bt s i) = 4 := by rw [h0]; unfold kdP; rw [if_neg (by omega)]; omega
    obtain ⟨hdd, hv⟩ := hp.num e
    rw [val_row hlt hk4, hend (.inr e), e]
    have hx : s.extract i (i + p.t.length) = ⟨p.t.toArray⟩ := by
      rw [ex_is h, ht, List.take_left']; rfl
    rw [hx]
    have hsz : (⟨p.t.toArray⟩ : ByteArray).size = p.t.length := by show p.t.toArray.size = _; simp
    have hnum : numF ⟨p.t.toArray⟩ 0 p.t.length = p.v := by
      have hf := foldN_is ⟨p.t.toArray⟩ 0 p.t.length (by rw [hsz]; omega)
      rw [← hf, List.drop_zero, List.take_of_length_le (by simp), hdd]
      exact dec_fold _ _ (Nat.le_refl _)
    have hok : numOk ⟨p.t.toArray⟩ 0 p.t.length = true := by
      unfold numOk
      rw [Nat.sub_zero, hnum, decide_eq_true hv, Bool.and_true, Bool.not_eq_true']
      by_cases h1 : 1 < p.t.length
      · rw [decide_eq_true h1, Bool.true_and, decide_eq_false_iff_not]
        intro h48
        obtain ⟨c, hc1, hc2⟩ := bt_get (s := ⟨p.t.toArray⟩) (l := p.t) (by simp) (k := 0) (by rw [hsz]; exact hp.ne)
        rw [hdd] at hc1 h1
        exact dec_head _ _ (Nat.le_refl _) (dec_one h1) c hc1 (by rw [hc2]; exact h48)
      · rw [decide_eq_false h1, Bool.false_and]
    unfold valV valE
    rw [hsz, hok, hnum]
    rfl
  · rw [step5 (by rw [h0]; unfold kdP; rw [if_neg (by omega)]; omega), hp.one (.inr e), e, hp.val (by omega)]
/-- A line of pieces has their tokens. -/
theorem line_pieces (s : ByteArray) (no : Nat) : ∀ (l : List Pc) (i : Nat), s.data.toList.drop i = textP l → OkL l → i ≤ s.size → lineT s no i = (toksP no i l, ⟨0, 0, 0⟩)
  | [], i, h, _, hi => by
    have hl := congrArg List.length h
    rw [List.length_drop, size_len] at hl
    rw [lineT_end (fun c => by have := c.1; simp [textP] at hl; omega)]; rfl
  | p :: l, i, h, ho, hi => by
    obtain ⟨hs, hle, h35, hlt⟩ := step_piece h ho
    have hd : s.data.toList.drop (i + p.t.length) = textP l := by
      rw [← List.drop_drop, h]
      show (p.t ++ textP l).drop p.t.length = _
      exact List.drop_left' rfl
    have ih := line_pieces s no l (i + p.t.length) hd ho.tail hle
    by_cases hk : p.k = 0
    · rw [lineT_skip hlt h35 (by rw [hs]) (by rw [hs]; exact hk), hs, ih]
      rw [toksP_blank hk]
    · rw [lineT_tok hlt h35 (by rw [hs]) (by rw [hs]; exact hk), hs, ih]
      have hx : s.extract i (i + p.t.length) = ⟨p.t.toArray⟩ := by
        rw [ex_is h]
        show (⟨((p.t ++ textP l).take p.t.length).toArray⟩ : ByteArray) = _
        rw [List.take_left']; rfl
      simp only [hx]
      rw [toksP_tok hk]
end Go.Proofs.YtehedlgdencboabGreatDoor
