/-
  Tokens tell by their texts what kind they are; the last one is a line's end; once something is wrong the reader stands. No program is named here.
-/
import Derived.Test.YtehedlgdencboabGreatDoorSyPlI
namespace Go.Proofs.YtehedlgdencboabGreatDoor
set_option linter.unusedVariables false
set_option linter.unusedSimpArgs false

/-- The kind of each byte of a token's text is the token's own. -/
def Tg (t : Tk) : Prop := ∀ c ∈ t.t.data.toList, kd c.toNat = if t.k = 4 then 0 else t.k + 2
theorem bt_mem {s : ByteArray} {c : UInt8} (h : c ∈ s.data.toList) : ∃ k, k < s.size ∧ bt s k = c.toNat := by
  obtain ⟨k, hk, e⟩ := List.mem_iff_getElem.1 h
  have hk' : k < s.size := by rwa [size_len] at hk
  obtain ⟨d, h1, h2⟩ := bt_get (s := s) rfl hk'
  rw [List.getElem?_eq_getElem hk] at h1
  have : s.data.toList[k] = d := Option.some.inj h1
  exact ⟨k, hk', by rw [← h2, ← this, e]⟩
theorem step_tg {s : ByteArray} {i no : Nat} (h : i < s.size) (he : (stepS s i).e = 0) (hk : (stepS s i).k ≠ 0) : Tg ⟨(stepS s i).k, s.extract i (stepS s i).j, (stepS s i).v, no, i + 1⟩ := by
  intro c hc
  obtain ⟨k, h1, h2⟩ := bt_mem hc
  rw [← h2]
  have hle := kd_le (bt s i)
  have hcases : kd (bt s i) = 0 ∨ kd (bt s i) = 1 ∨ kd (bt s i) = 2 ∨ kd (bt s i) = 3 ∨ kd (bt s i) = 4 ∨ kd (bt s i) = 5 := by omega
  rcases hcases with q | q | q | q | q | q
  · have e := congrArg (·.e) (step0 (s := s) (i := i) (.inl q)); simp only [he] at e; cases e
  · exact absurd (congrArg (·.k) (step1 q)) hk
  · have e := congrArg (·.e) (step0 (s := s) (i := i) (.inr q)); simp only [he] at e; cases e
  · have e := step3 q
    rw [e] at h1 ⊢
    simp only at h1 ⊢
    rw [row_kind h k h1, q]; rfl
  · have e : (stepS s i).k = 2 ∧ (stepS s i).j = rowE s i := by rw [step4 q]; split <;> exact ⟨rfl, rfl⟩
    simp only [e.1, e.2] at h1 ⊢
    rw [row_kind h k h1, q]; rfl
  · have e := step5 q
    rw [e] at h1 ⊢
    simp only at h1 ⊢
    rw [ex_size s i (i + 1) (by omega) (by omega)] at h1
    rw [bt_ex s i (i + 1) k (by omega) (by omega), show i + k = i by omega, q]; rfl
theorem line_tg (s : ByteArray) (no : Nat) : ∀ (n i : Nat), s.size - i ≤ n → ∀ t ∈ (lineT s no i).1, Tg t
  | n, i, hn, t, ht => by
    by_cases h : i < s.size ∧ bt s i ≠ 35
    · have hg := step_gt h.1
      match n, hn with
      | 0, hn => omega
      | n + 1, hn =>
        by_cases he : (stepS s i).e = 0
        · by_cases hk : (stepS s i).k = 0
          · rw [lineT_skip h.1 h.2 he hk] at ht
            exact line_tg s no n _ (by omega) t ht
          · rw [lineT_tok h.1 h.2 he hk] at ht
            rcases List.mem_cons.1 ht with rfl | ht
            · exact step_tg h.1 he hk
            · exact line_tg s no n _ (by omega) t ht
        · rw [lineT_bad h.1 h.2 he] at ht
          cases ht
    · rw [lineT_end h] at ht
      cases ht
theorem lineA_tg (s : ByteArray) (no : Nat) : ∀ t ∈ (lineA s no).1, Tg t := by
  intro t ht
  unfold lineA at ht
  split at ht
  · cases ht
  · exact line_tg s no _ 0 (Nat.le_refl _) t ht
theorem end_tg (s : ByteArray) (no i : Nat) (hi : i ≤ s.size) : Tg (endT s no i) := by
  intro c hc
  unfold endT at hc ⊢
  simp only [if_true] at hc ⊢
  by_cases h : endOf s i < s.size
  · rw [if_pos h] at hc
    obtain ⟨k, h1, h2⟩ := bt_mem hc
    rw [ex_size s _ _ (by omega) (by omega)] at h1
    rw [bt_ex s _ _ k (by omega) (by omega), show endOf s i + k = endOf s i by omega] at h2
    have h10 : bt s (endOf s i) = 10 := by
      have := run_stop (p := fun k => decide (bt s k ≠ 10)) (e := s.size) _ i rfl h
      have := of_decide_eq_false this
      exact Decidable.of_not_not this
    rw [← h2, h10]; decide
  · rw [if_neg h] at hc
    cases hc
theorem all_tg (s : ByteArray) : ∀ (n i no : Nat), s.size - i ≤ n → ∀ t ∈ (allT s no i).1, Tg t
  | n, i, no, hn, t, ht => by
    by_cases hi : i < s.size
    · match n, hn with
      | 0, hn => omega
      | n + 1, hn =>
        by_cases hl : (lineA (s.extract i (endOf s i)) no).2.e = 0
        · rw [allT_line hi hl] at ht
          have hg := endOf_ge s i
          rcases List.mem_append.1 ht with ht | ht
          · exact lineA_tg _ _ t ht
          · rcases List.mem_cons.1 ht with rfl | ht
            · exact end_tg s no i (by omega)
            · exact all_tg s n _ _ (by omega) t ht
        · rw [allT_bad hi hl] at ht
          exact lineA_tg _ _ t ht
    · rw [allT_end hi] at ht
      cases ht
theorem lex_tg (s : ByteArray) : ∀ t ∈ (lexT s).1, Tg t := by
  intro t ht
  unfold lexT at ht
  split at ht
  · cases ht
  · exact all_tg s _ 0 1 (Nat.le_refl _) t ht
/-- What is known of a text's tokens. -/
structure GoodL (L : List Tk) : Prop where
  tg : ∀ i, i < L.length → Tg (tkA L i)
  ok : ∀ i, i < L.length → OkT 65536 (tkA L i) ∧ (tkA L i).l ≤ 65536
  len : L.length ≤ 65537
  fin : 0 < L.length → (tkA L (L.length - 1)).k = 4
theorem tkA_mem {L : List Tk} {i : Nat} (h : i < L.length) : tkA L i ∈ L := by
  unfold tkA
  rw [List.getD_eq_getElem?_getD, List.getElem?_eq_getElem h]
  exact List.getElem_mem h
theorem tkA_at {L : List Tk} {i : Nat} (h : i < L.length) : tkA L i = L[i]'h := by
  unfold tkA
  rw [List.getD_eq_getElem?_getD, List.getElem?_eq_getElem h]
  rfl
theorem lex_good {s : ByteArray} (he : (lexT s).2.e = 0) : GoodL (lexT s).1 := by
  have hs : s.size ≤ 65536 := by
    unfold lexT at he
    by_cases h : 65536 < s.size
    · rw [if_pos h] at he; cases he
    · omega
  obtain ⟨h1, h2, _⟩ := lexT_ok s hs
  refine ⟨fun i h => lex_tg s _ (tkA_mem h), fun i h => h1 _ (tkA_mem h), by omega, fun h => ?_⟩
  have e : lexT s = allT s 1 0 := by unfold lexT; rw [if_neg (by omega)]
  rw [e] at he h ⊢
  by_cases h0 : 0 < s.size
  · obtain ⟨T, t, e1, e2⟩ := all_last s _ 0 1 (Nat.le_refl _) h0 he
    rw [e1]
    unfold tkA
    simp [e2]
  · rw [allT_end (by omega)] at h
    simp at h
theorem GoodL.ag {L : List Tk} (h : GoodL L) (h0 : 0 < L.length) : Ag L L (L.length - 1) := ⟨fun _ _ => rfl, h.fin h0⟩
/-- What a sign's text tells. -/
theorem Tg.sign {t : Tk} (h : Tg t) {c : Nat} (hc : kd (UInt8.ofNat c).toNat = 5) (ht : t.t.data.toList = [UInt8.ofNat c]) : t.k = 3 := by
  have := h (UInt8.ofNat c) (by rw [ht]; exact List.mem_singleton.2 rfl)
  rw [hc] at this
  split at this
  · cases this
  · omega
theorem Tg.word {t : Tk} (h : Tg t) {c : UInt8} {r : List UInt8} (hc : kd c.toNat = 3) (ht : t.t.data.toList = c :: r) : t.k = 1 := by
  have := h c (by rw [ht]; exact List.mem_cons_self ..)
  rw [hc] at this
  split at this
  · cases this
  · omega
theorem Tg.no {t : Tk} (h : Tg t) (hk : t.k ≠ 1) {w : List UInt8} (hw : (w.head?.map fun c => kd c.toNat) = some 3) : t.t.data.toList ≠ w := by
  intro e
  cases w with
  | nil => cases hw
  | cons c r => exact hk (h.word (c := c) (Option.some.inj hw) e)
theorem Tg.act {t : Tk} (h : Tg t) (hk : t.k ≠ 1) : actOf t.t.data.toList = 0 := by
  unfold actOf
  rw [if_neg (h.no hk (by decide)), if_neg (h.no hk (by decide)), if_neg (h.no hk (by decide)), if_neg (h.no hk (by decide))]
theorem Tg.kind {t : Tk} (h : Tg t) (hk : t.k ≠ 1) : kindOf t.t.data.toList = 0 := by
  unfold kindOf
  rw [if_neg (h.no hk (by decide)), if_neg (h.no hk (by decide)), if_neg (h.no hk (by decide)), if_neg (h.no hk (by decide)), if_neg (h.no hk (by decide)), if_neg (h.no hk (by decide)), if_neg (h.no hk (by decide)), if_neg (h.no hk (by decide)), if_neg (h.no hk (by decide)), if_neg (h.no hk (by decide))]
/-- Once something is wrong the reader stands. -/
theorem wrong_st {L : List Tk} {e i : Nat} {st : Rd} (h : st.w.e ≠ 0) : wrongS L e i st = st := by unfold wrongS; rw [if_neg h]
theorem sign_st {L : List Tk} {c : Nat} {st : Rd} (h : st.w.e ≠ 0) : signS L c st = (false, st) := by unfold signS; rw [if_neg (fun x => h x.1)]
theorem num_st {L : List Tk} {m : Nat} {st : Rd} (h : st.w.e ≠ 0) : numS L m st = (0, st) := by unfold numS; rw [if_pos (.inl h), wrong_st h]
theorem word_st {L : List Tk} {st : Rd} (h : st.w.e ≠ 0) : wordS L st = ([], st) := by unfold wordS; rw [if_pos (.inl h)]
theorem dots_st {L : List Tk} {x n : Nat} {st : Rd} (h : st.w.e ≠ 0) : (dotsS L n x st).2 = st := by
  cases n with
  | zero => rfl
  | succ n =>
    rw [dots_is, sign_st h]
    simp only [Bool.false_eq_true, if_false]
    exact wrong_st h
theorem addr_st {L : List Tk} {st : Rd} (h : st.w.e ≠ 0) : (addrS L st).2 = st := by unfold addrS; rw [num_st h]; exact dots_st h
theorem pair_st {L : List Tk} {c m x : Nat} {one : Nat → Nat} {st : Rd} (h : st.w.e ≠ 0) : (pairS L c m one x st).2 = st := by unfold pairS; rw [sign_st h]; simp
theorem pref_st {L : List Tk} {st : Rd} (h : st.w.e ≠ 0) : (prefS L st).2 = st := by
  unfold prefS; rw [sign_st h]; simp only [Bool.false_eq_true, if_false]; rw [addr_st h]; exact pair_st h
theorem span_st {L : List Tk} {st : Rd} (h : st.w.e ≠ 0) : (spanS L st).2 = st := by
  unfold spanS; rw [sign_st h]; simp only [Bool.false_eq_true, if_false]; rw [num_st h]; exact pair_st h
theorem mask_st {L : List Tk} {st : Rd} (h : st.w.e ≠ 0) : (maskS L st).2 = st := by
  unfold maskS; rw [sign_st h]; simp only [Bool.false_eq_true, if_false]; rw [num_st h]; exact pair_st h
theorem rule_st {L : List Tk} {st : Rd} (h : st.w.e ≠ 0) : (ruleS L st).2.2 = st := by
  unfold ruleS
  simp only [num_st h, word_st h, wrong_st h, ite_self, pref_st h, span_st h, mask_st h]
theorem head_st {L : List Tk} {st : Rd} (h : st.w.e ≠ 0) : (headS L st).2 = st := by
  unfold headS
  simp only [addr_st h, num_st h]
end Go.Proofs.YtehedlgdencboabGreatDoor
