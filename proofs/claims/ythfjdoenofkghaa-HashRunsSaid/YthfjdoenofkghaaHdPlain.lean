/-
  Headers, their bytes and bits: plain mathematics. No program is named here.
-/
namespace Go.Proofs.Ythfjdoenofkghaa
set_option linter.unusedVariables false

/-- A header's five fields. -/
structure Hd where
  s : Nat
  d : Nat
  p : Nat
  q : Nat
  r : Nat
  deriving DecidableEq
def OkH (h : Hd) : Prop := h.s < 4294967296 ∧ h.d < 4294967296 ∧ h.p < 65536 ∧ h.q < 65536 ∧ h.r < 256
def h0 : Hd := ⟨0, 0, 0, 0, 0⟩
theorem ok_h0 : OkH h0 := by unfold OkH h0; decide
theorem hd_ext {a b : Hd} (h1 : a.s = b.s) (h2 : a.d = b.d) (h3 : a.p = b.p) (h4 : a.q = b.q) (h5 : a.r = b.r) : a = b := by
  cases a; cases b; simp_all
/-- The header as one number. -/
def val (h : Hd) : Nat := h.s * 4722366482869645213696 + h.d * 1099511627776 + h.p * 16777216 + h.q * 256 + h.r
theorem val_lt {h : Hd} (o : OkH h) : val h < 20282409603651670423947251286016 := by unfold OkH at o; unfold val; omega
theorem val_inj {a b : Hd} (oa : OkH a) (ob : OkH b) (h : val a = val b) : a = b := by
  unfold OkH at *; unfold val at h
  exact hd_ext (by omega) (by omega) (by omega) (by omega) (by omega)
/-- Its bytes. -/
def bytesH (h : Hd) : List Nat :=
  [h.s / 16777216 % 256, h.s / 65536 % 256, h.s / 256 % 256, h.s % 256, h.d / 16777216 % 256, h.d / 65536 % 256, h.d / 256 % 256, h.d % 256, h.p / 256 % 256, h.p % 256, h.q / 256 % 256, h.q % 256, h.r % 256]
theorem bytesH_length (h : Hd) : (bytesH h).length = 13 := rfl
/-- Numbers of eight bits. -/
def BdB (l : List Nat) : Prop := ∀ b ∈ l, b < 256
theorem bytesH_bd (h : Hd) : BdB (bytesH h) := by
  intro b hb
  simp only [bytesH, List.mem_cons, List.not_mem_nil, or_false] at hb
  omega
/-- The number of some bytes. -/
def num (l : List Nat) : Nat := l.foldl (fun n b => 256 * n + b) 0
theorem num_nil : num [] = 0 := rfl
theorem num_snoc (l : List Nat) (b : Nat) : num (l ++ [b]) = 256 * num l + b := by unfold num; rw [List.foldl_append]; rfl
theorem foldl_num (l : List Nat) : ∀ n, l.foldl (fun n b => 256 * n + b) n = n * 256 ^ l.length + num l := by
  induction l with
  | nil => intro n; simp [num]
  | cons b l ih =>
    intro n
    have e : num (b :: l) = l.foldl (fun n b => 256 * n + b) b := by unfold num; simp
    rw [e, List.foldl_cons, ih, ih b, List.length_cons, Nat.pow_succ, Nat.add_mul]
    rw [Nat.mul_comm (256 ^ l.length) 256, ← Nat.mul_assoc, Nat.mul_comm n 256]
    omega
theorem num_cons (b : Nat) (l : List Nat) : num (b :: l) = b * 256 ^ l.length + num l := by
  have e : num (b :: l) = l.foldl (fun n b => 256 * n + b) b := by unfold num; simp
  rw [e, foldl_num]
theorem num_lt {l : List Nat} (h : BdB l) : num l < 256 ^ l.length := by
  induction l with
  | nil => exact Nat.one_pos
  | cons b l ih =>
    have h1 := ih fun x hx => h x (List.mem_cons_of_mem _ hx)
    have h2 := h b List.mem_cons_self
    rw [num_cons, List.length_cons, Nat.pow_succ]
    have h3 := Nat.mul_le_mul_right (256 ^ l.length) (show b + 1 ≤ 256 by omega)
    rw [Nat.add_mul, Nat.one_mul] at h3
    rw [Nat.mul_comm (256 ^ l.length) 256]
    omega
/-- The header of 13 bytes. -/
def hdB (l : List Nat) : Hd := ⟨num (l.take 4), num ((l.drop 4).take 4), num ((l.drop 8).take 2), num ((l.drop 10).take 2), num (l.drop 12)⟩
theorem len13 {l : List Nat} (h : l.length = 13) : ∃ a0 a1 a2 a3 a4 a5 a6 a7 a8 a9 b0 b1 b2 : Nat, l = [a0, a1, a2, a3, a4, a5, a6, a7, a8, a9, b0, b1, b2] := by
  match l, h with
  | [a0, a1, a2, a3, a4, a5, a6, a7, a8, a9, b0, b1, b2], _ => exact ⟨a0, a1, a2, a3, a4, a5, a6, a7, a8, a9, b0, b1, b2, rfl⟩
theorem hdB_is (a0 a1 a2 a3 a4 a5 a6 a7 a8 a9 b0 b1 b2 : Nat) : hdB [a0, a1, a2, a3, a4, a5, a6, a7, a8, a9, b0, b1, b2] = ⟨256 * (256 * (256 * (256 * 0 + a0) + a1) + a2) + a3, 256 * (256 * (256 * (256 * 0 + a4) + a5) + a6) + a7, 256 * (256 * 0 + a8) + a9, 256 * (256 * 0 + b0) + b1, 256 * 0 + b2⟩ := rfl
theorem okH_hdB {l : List Nat} (h : l.length = 13) (hb : BdB l) : OkH (hdB l) := by
  obtain ⟨a0, a1, a2, a3, a4, a5, a6, a7, a8, a9, b0, b1, b2, rfl⟩ := len13 h
  simp only [BdB, List.mem_cons, List.not_mem_nil, or_false, forall_eq_or_imp, forall_eq] at hb
  rw [hdB_is]
  unfold OkH
  simp only
  omega
theorem hdB_bytes {h : Hd} (o : OkH h) : hdB (bytesH h) = h := by
  unfold OkH at o
  unfold bytesH
  rw [hdB_is]
  exact hd_ext (by simp only; omega) (by simp only; omega) (by simp only; omega) (by simp only; omega) (by simp only; omega)
theorem bytes_hdB {l : List Nat} (h : l.length = 13) (hb : BdB l) : bytesH (hdB l) = l := by
  obtain ⟨a0, a1, a2, a3, a4, a5, a6, a7, a8, a9, b0, b1, b2, rfl⟩ := len13 h
  simp only [BdB, List.mem_cons, List.not_mem_nil, or_false, forall_eq_or_imp, forall_eq] at hb
  rw [hdB_is]
  unfold bytesH
  simp only [List.cons.injEq, and_true]
  refine ⟨?_, ?_, ?_, ?_, ?_, ?_, ?_, ?_, ?_, ?_, ?_, ?_, ?_⟩ <;> omega
theorem num_bytes {h : Hd} (o : OkH h) : num (bytesH h) = val h := by
  unfold OkH at o
  unfold bytesH val num
  simp only [List.foldl_cons, List.foldl_nil]
  omega
/-- The bits of some bytes. -/
def bitL (l : List Nat) (i : Nat) : Nat := l.getD (i / 8) 0 / 2 ^ (7 - i % 8) % 2
theorem bitL_lt (l : List Nat) (i : Nat) : bitL l i < 2 := Nat.mod_lt _ (by decide)
theorem bitL_num : ∀ (l : List Nat) (i : Nat), BdB l → i < 8 * l.length → bitL l i = num l / 2 ^ (8 * l.length - 1 - i) % 2
  | [], i, _, h => by simp at h
  | b :: l, i, hb, h => by
    have h1 := num_lt fun x hx => hb x (List.mem_cons_of_mem _ hx)
    have e256 : 256 ^ l.length = 2 ^ (8 * l.length) := by rw [Nat.pow_mul]
    rw [num_cons, List.length_cons]
    rw [e256] at h1 ⊢
    by_cases hi : i < 8
    · have ei : i / 8 = 0 := by omega
      have em : i % 8 = i := by omega
      unfold bitL
      rw [ei, em]
      show b / _ % 2 = _
      rw [show 8 * (l.length + 1) - 1 - i = 8 * l.length + (7 - i) by omega, Nat.pow_add, ← Nat.div_div_eq_div_mul, Nat.add_comm, Nat.add_mul_div_right _ _ (Nat.pow_pos (by decide)), Nat.div_eq_of_lt h1, Nat.zero_add]
    · have ih := bitL_num l (i - 8) (fun x hx => hb x (List.mem_cons_of_mem _ hx)) (by rw [List.length_cons] at h; omega)
      have e : bitL (b :: l) i = bitL l (i - 8) := by
        unfold bitL
        rw [show i / 8 = (i - 8) / 8 + 1 by omega, show i % 8 = (i - 8) % 8 by omega]
        rfl
      rw [e, ih, List.length_cons] at *
      rw [show 8 * (l.length + 1) - 1 - i = 8 * l.length - 1 - (i - 8) by omega]
      have e2 : 2 ^ (8 * l.length) = 2 * 2 ^ (8 * l.length - 1 - (8 * l.length - 1 - (i - 8))) * 2 ^ (8 * l.length - 1 - (i - 8)) := by
        rw [Nat.mul_assoc, ← Nat.pow_add, ← Nat.pow_succ']
        congr 1
        omega
      rw [e2, ← Nat.mul_assoc, Nat.add_comm, Nat.add_mul_div_right _ _ (Nat.pow_pos (by decide)), Nat.add_comm, ← Nat.mul_assoc, Nat.mul_comm b 2, Nat.mul_assoc, Nat.mul_add_mod]
/-- One bit turned. -/
def flipB (b k : Nat) : Nat := if b / 2 ^ k % 2 = 1 then b - 2 ^ k else b + 2 ^ k
def turnL (l : List Nat) (i : Nat) : List Nat := l.set (i / 8) (flipB (l.getD (i / 8) 0) (7 - i % 8))
def turnH (h : Hd) (i : Nat) : Hd := hdB (turnL (bytesH h) i)
theorem flip_all : ∀ b, b < 256 → ∀ k, k < 8 → flipB b k < 256 ∧ ∀ m, m < 8 → flipB b k / 2 ^ m % 2 = if m = k then 1 - b / 2 ^ k % 2 else b / 2 ^ m % 2 := by decide +kernel
theorem turnL_length (l : List Nat) (i : Nat) : (turnL l i).length = l.length := List.length_set
theorem getD_lt {l : List Nat} (h : BdB l) (i : Nat) : l.getD i 0 < 256 := by
  by_cases hi : i < l.length
  · rw [List.getD_eq_getElem?_getD, List.getElem?_eq_getElem hi]
    exact h _ (List.getElem_mem _)
  · rw [List.getD_eq_getElem?_getD, List.getElem?_eq_none (by omega)]
    decide
theorem turnL_bd {l : List Nat} (h : BdB l) (i : Nat) : BdB (turnL l i) := by
  intro b hb
  rcases List.mem_or_eq_of_mem_set hb with hb | hb
  · exact h b hb
  · rw [hb]; exact (flip_all _ (getD_lt h _) _ (by omega)).1
theorem turnL_bit {l : List Nat} (h : BdB l) {i j : Nat} (hi : i < 8 * l.length) : bitL (turnL l i) j = if j = i then 1 - bitL l i else bitL l j := by
  unfold bitL turnL
  by_cases e : i / 8 = j / 8
  · rw [← e]
    have hlt : i / 8 < l.length := by omega
    have e1 : (l.set (i / 8) (flipB (l.getD (i / 8) 0) (7 - i % 8))).getD (i / 8) 0 = flipB (l.getD (i / 8) 0) (7 - i % 8) := by
      rw [List.getD_eq_getElem?_getD, List.getElem?_set_self (by simpa using hlt)]; rfl
    rw [e1, (flip_all _ (getD_lt h _) _ (by omega)).2 _ (by omega)]
    by_cases hj : j = i
    · rw [if_pos (by omega), if_pos hj]
    · rw [if_neg (by omega), if_neg hj]
  · have e1 : (l.set (i / 8) (flipB (l.getD (i / 8) 0) (7 - i % 8))).getD (j / 8) 0 = l.getD (j / 8) 0 := by
      rw [List.getD_eq_getElem?_getD, List.getElem?_set_ne e, List.getD_eq_getElem?_getD]
    rw [e1, if_neg (fun hc => e (by rw [hc]))]
theorem ok_turn {h : Hd} (i : Nat) : OkH (turnH h i) := okH_hdB (by rw [turnL_length]; rfl) (turnL_bd (bytesH_bd h) i)
theorem bytes_turn {h : Hd} (i : Nat) : bytesH (turnH h i) = turnL (bytesH h) i := bytes_hdB (by rw [turnL_length]; rfl) (turnL_bd (bytesH_bd h) i)
/-- A header's bit. -/
def bitH (h : Hd) (i : Nat) : Nat := bitL (bytesH h) i
theorem bitH_lt (h : Hd) (i : Nat) : bitH h i < 2 := bitL_lt _ _
theorem bitH_val {h : Hd} (o : OkH h) {i : Nat} (hi : i < 104) : bitH h i = val h / 2 ^ (103 - i) % 2 := by
  unfold bitH
  rw [bitL_num _ _ (bytesH_bd h) (by rw [bytesH_length]; omega), num_bytes o, bytesH_length]
theorem bitH_test {h : Hd} (o : OkH h) {i : Nat} (hi : i < 104) : (val h).testBit (103 - i) = decide (bitH h i = 1) := by
  rw [bitH_val o hi, Nat.testBit_eq_decide_div_mod_eq]
theorem test_high {h : Hd} (o : OkH h) {j : Nat} (hj : 104 ≤ j) : (val h).testBit j = false := by
  refine Nat.testBit_lt_two_pow (Nat.lt_of_lt_of_le (val_lt o) ?_)
  have : 2 ^ 104 ≤ 2 ^ j := Nat.pow_le_pow_right (by decide) hj
  simpa using this
theorem turn_bit {h : Hd} {i j : Nat} (hi : i < 104) : bitH (turnH h i) j = if j = i then 1 - bitH h i else bitH h j := by
  unfold bitH
  rw [bytes_turn, turnL_bit (bytesH_bd h) (by rw [bytesH_length]; omega)]
/-- Bits tell headers apart. -/
theorem bits_eq {a b : Hd} (oa : OkH a) (ob : OkH b) (h : ∀ i, i < 104 → bitH a i = bitH b i) : a = b := by
  refine val_inj oa ob (Nat.eq_of_testBit_eq fun j => ?_)
  by_cases hj : j < 104
  · have e := h (103 - j) (by omega)
    have e1 := bitH_test oa (i := 103 - j) (by omega)
    have e2 := bitH_test ob (i := 103 - j) (by omega)
    rw [show 103 - (103 - j) = j by omega] at e1 e2
    rw [e1, e2, e]
  · rw [test_high oa (by omega), test_high ob (by omega)]
theorem lt_of_bits {x y : Nat} (k : Nat) (hx : x.testBit k = false) (hy : y.testBit k = true) (h : ∀ j, k < j → x.testBit j = y.testBit j) : x < y := by
  have e : x >>> (k + 1) = y >>> (k + 1) := Nat.eq_of_testBit_eq fun j => by
    rw [Nat.testBit_shiftRight, Nat.testBit_shiftRight]
    exact h _ (by omega)
  rw [Nat.shiftRight_eq_div_pow, Nat.shiftRight_eq_div_pow, Nat.pow_succ, ← Nat.div_div_eq_div_mul, ← Nat.div_div_eq_div_mul] at e
  rw [Nat.testBit_eq_decide_div_mod_eq] at hx hy
  have hx := of_decide_eq_false hx
  have hy := of_decide_eq_true hy
  apply Nat.lt_of_not_le
  intro hc
  have := Nat.div_le_div_right (c := 2 ^ k) hc
  omega
/-- The first bit in which they differ tells which one is ahead. -/
theorem bits_lt {a b : Hd} (oa : OkH a) (ob : OkH b) {i : Nat} (hi : i < 104) (hs : ∀ j, j < i → bitH a j = bitH b j) (ha : bitH a i = 0) (hb : bitH b i = 1) : val a < val b := by
  refine lt_of_bits (103 - i) ?_ ?_ ?_
  · rw [bitH_test oa hi, ha]; rfl
  · rw [bitH_test ob hi, hb]; rfl
  · intro j hj
    by_cases hj4 : j < 104
    · have e := hs (103 - j) (by omega)
      have e1 := bitH_test oa (i := 103 - j) (by omega)
      have e2 := bitH_test ob (i := 103 - j) (by omega)
      rw [show 103 - (103 - j) = j by omega] at e1 e2
      rw [e1, e2, e]
    · rw [test_high oa (by omega), test_high ob (by omega)]
/-- The order of headers. -/
def cmpH (a b : Hd) : Int := if val a < val b then -1 else if val b < val a then 1 else 0
/-- The first of n places from i on in which two rows differ; -1: in none. -/
def dfr (x y : Nat → Nat) : Nat → Nat → Int
  | 0, _ => -1
  | n + 1, i => if x i = y i then dfr x y n (i + 1) else i
def difH (a b : Hd) : Int := dfr (bitH a) (bitH b) 104 0
theorem dfr_is (x y : Nat → Nat) : ∀ n i, (dfr x y n i = -1 ∧ ∀ j, i ≤ j → j < i + n → x j = y j) ∨ (∃ k : Nat, dfr x y n i = (k : Int) ∧ i ≤ k ∧ k < i + n ∧ x k ≠ y k ∧ ∀ j, i ≤ j → j < k → x j = y j)
  | 0, i => .inl ⟨rfl, fun j h1 h2 => absurd h1 (by omega)⟩
  | n + 1, i => by
    unfold dfr
    by_cases e : x i = y i
    · rw [if_pos e]
      rcases dfr_is x y n (i + 1) with ⟨h1, h2⟩ | ⟨k, h1, h2, h3, h4, h5⟩
      · refine .inl ⟨h1, fun j j1 j2 => ?_⟩
        by_cases ej : j = i
        · rw [ej]; exact e
        · exact h2 j (by omega) (by omega)
      · refine .inr ⟨k, h1, by omega, by omega, h4, fun j j1 j2 => ?_⟩
        by_cases ej : j = i
        · rw [ej]; exact e
        · exact h5 j (by omega) j2
    · rw [if_neg e]
      exact .inr ⟨i, rfl, Nat.le_refl _, by omega, e, fun j h1 h2 => absurd h1 (by omega)⟩
theorem difH_is {a b : Hd} (oa : OkH a) (ob : OkH b) : (difH a b = -1 ∧ a = b) ∨ (∃ k : Nat, difH a b = (k : Int) ∧ k < 104 ∧ bitH a k ≠ bitH b k ∧ ∀ j, j < k → bitH a j = bitH b j) := by
  rcases dfr_is (bitH a) (bitH b) 104 0 with ⟨h1, h2⟩ | ⟨k, h1, h2, h3, h4, h5⟩
  · exact .inl ⟨h1, bits_eq oa ob fun i hi => h2 i (Nat.zero_le _) (by omega)⟩
  · exact .inr ⟨k, h1, by omega, h4, fun j hj => h5 j (Nat.zero_le _) hj⟩
/-- What is found is the first. -/
theorem difH_uniq {a b : Hd} {k : Nat} (hk : k < 104) (hne : bitH a k ≠ bitH b k) (hs : ∀ j, j < k → bitH a j = bitH b j) : difH a b = (k : Int) := by
  rcases dfr_is (bitH a) (bitH b) 104 0 with ⟨h1, h2⟩ | ⟨m, h1, h2, h3, h4, h5⟩
  · exact absurd (h2 k (Nat.zero_le _) (by omega)) hne
  · rcases Nat.lt_trichotomy k m with h | h | h
    · exact absurd (h5 k (Nat.zero_le _) h) hne
    · rw [h]; exact h1
    · exact absurd (hs m h) h4
theorem difH_self (a : Hd) : difH a a = -1 := by
  rcases dfr_is (bitH a) (bitH a) 104 0 with ⟨h1, h2⟩ | ⟨k, h1, h2, h3, h4, h5⟩
  · exact h1
  · exact absurd rfl h4
/-- Is there a next one? The next one; noughts, if there is none. -/
def hasN (h : Hd) : Bool := decide (val h + 1 < 20282409603651670423947251286016)
def nxt (h : Hd) : Hd :=
  if h.r < 255 then ⟨h.s, h.d, h.p, h.q, h.r + 1⟩
  else if h.q < 65535 then ⟨h.s, h.d, h.p, h.q + 1, 0⟩
  else if h.p < 65535 then ⟨h.s, h.d, h.p + 1, 0, 0⟩
  else if h.d < 4294967295 then ⟨h.s, h.d + 1, 0, 0, 0⟩
  else if h.s < 4294967295 then ⟨h.s + 1, 0, 0, 0, 0⟩
  else h0
theorem nxt_val {h : Hd} (o : OkH h) (hn : hasN h = true) : OkH (nxt h) ∧ val (nxt h) = val h + 1 := by
  have hn := of_decide_eq_true hn
  unfold OkH at o
  unfold nxt
  split
  · unfold OkH val at *; simp only; omega
  · split
    · unfold OkH val at *; simp only; omega
    · split
      · unfold OkH val at *; simp only; omega
      · split
        · unfold OkH val at *; simp only; omega
        · split
          · unfold OkH val at *; simp only; omega
          · exfalso; unfold val at hn; omega
theorem nxt_no {h : Hd} (o : OkH h) (hn : hasN h = false) : nxt h = h0 ∧ val h = 20282409603651670423947251286015 := by
  have hn := of_decide_eq_false hn
  have hv := val_lt o
  unfold OkH at o
  refine ⟨?_, by omega⟩
  unfold nxt
  unfold val at hn hv
  rw [if_neg (by omega), if_neg (by omega), if_neg (by omega), if_neg (by omega), if_neg (by omega)]
theorem nxt_ok {h : Hd} (o : OkH h) : OkH (nxt h) := by
  cases hn : hasN h
  · rw [(nxt_no o hn).1]; exact ok_h0
  · exact (nxt_val o hn).1
theorem all_ones {h : Hd} (o : OkH h) : (∀ i, i < 104 → bitH h i = 1) ↔ hasN h = false := by
  have og : OkH ⟨4294967295, 4294967295, 65535, 65535, 255⟩ := by unfold OkH; decide
  have hg : ∀ i, i < 104 → bitH ⟨4294967295, 4294967295, 65535, 65535, 255⟩ i = 1 := by decide +kernel
  constructor
  · intro h1
    have := bits_eq o og fun i hi => by rw [h1 i hi, hg i hi]
    rw [this]; decide +kernel
  · intro h1
    have hv := (nxt_no o h1).2
    have : h = ⟨4294967295, 4294967295, 65535, 65535, 255⟩ := val_inj o og (by rw [hv]; decide +kernel)
    rw [this]; exact hg
/-- The order by bytes, of the first k. -/
def lexC (x y : List Nat) : Nat → Int
  | 0 => 0
  | k + 1 => if lexC x y k ≠ 0 then lexC x y k else if x.getD k 0 < y.getD k 0 then -1 else if y.getD k 0 < x.getD k 0 then 1 else 0
theorem take_getD {l : List Nat} {k : Nat} (h : k < l.length) : l.take (k + 1) = l.take k ++ [l.getD k 0] := by
  rw [List.take_add_one, List.getElem?_eq_getElem h, List.getD_eq_getElem?_getD, List.getElem?_eq_getElem h]; rfl
theorem lexC_is {x y : List Nat} (hx : BdB x) (hy : BdB y) : ∀ k, k ≤ x.length → k ≤ y.length → lexC x y k = if num (x.take k) < num (y.take k) then -1 else if num (y.take k) < num (x.take k) then 1 else 0
  | 0, _, _ => by simp [lexC, num]
  | k + 1, h1, h2 => by
    have ih := lexC_is hx hy k (by omega) (by omega)
    have a1 := getD_lt hx k
    have a2 := getD_lt hy k
    rw [take_getD h1, take_getD h2, num_snoc, num_snoc]
    unfold lexC
    rw [ih]
    generalize num (x.take k) = X
    generalize num (y.take k) = Y
    generalize x.getD k 0 = u at *
    generalize y.getD k 0 = v at *
    by_cases c1 : X < Y
    · rw [if_pos c1, if_pos (by decide), if_pos (by omega)]
    · rw [if_neg c1]
      by_cases c2 : Y < X
      · rw [if_pos c2, if_pos (by decide), if_neg (by omega), if_pos (by omega)]
      · rw [if_neg c2, if_neg (by decide)]
        obtain rfl : X = Y := by omega
        by_cases c3 : u < v
        · rw [if_pos c3, if_pos (by omega)]
        · rw [if_neg c3]
          by_cases c4 : v < u
          · rw [if_pos c4, if_neg (by omega), if_pos (by omega)]
          · rw [if_neg c4, if_neg (by omega), if_neg (by omega)]
theorem lexC_cmp {a b : Hd} (oa : OkH a) (ob : OkH b) : lexC (bytesH a) (bytesH b) 13 = cmpH a b := by
  rw [lexC_is (bytesH_bd a) (bytesH_bd b) 13 (Nat.le_refl _) (Nat.le_refl _)]
  rw [show (bytesH a).take 13 = bytesH a from rfl, show (bytesH b).take 13 = bytesH b from rfl, num_bytes oa, num_bytes ob]
  rfl
end Go.Proofs.Ythfjdoenofkghaa
