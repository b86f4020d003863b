/-
  Headers: the fields in their order, the next one by its bytes. No program is named here.
-/
import Derived.Test.YthfjdoenofkghaaHdPlain
namespace Go.Proofs.Ythfjdoenofkghaa
set_option linter.unusedVariables false

/-- The fields, by number. -/
def fl (h : Hd) : Nat → Nat
  | 0 => h.s
  | 1 => h.d
  | 2 => h.p
  | 3 => h.q
  | _ => h.r
theorem fl_lt {h : Hd} (o : OkH h) (k : Nat) : fl h k < 4294967296 := by
  unfold OkH at o
  unfold fl
  split <;> omega
theorem cmp_less {a b : Hd} (oa : OkH a) (ob : OkH b) {k : Nat} (hk : k < 5) (hs : ∀ j, j < k → fl a j = fl b j) (hl : fl a k < fl b k) : cmpH a b = -1 := by
  unfold OkH at *
  have : val a < val b := by
    unfold val
    match k, hk with
    | 0, _ => simp only [fl] at hl; omega
    | 1, _ => have h0 := hs 0 (by omega); simp only [fl] at hl h0; omega
    | 2, _ => have h0 := hs 0 (by omega); have h1 := hs 1 (by omega); simp only [fl] at hl h0 h1; omega
    | 3, _ => have h0 := hs 0 (by omega); have h1 := hs 1 (by omega); have h2 := hs 2 (by omega); simp only [fl] at hl h0 h1 h2; omega
    | 4, _ => have h0 := hs 0 (by omega); have h1 := hs 1 (by omega); have h2 := hs 2 (by omega); have h3 := hs 3 (by omega); simp only [fl] at hl h0 h1 h2 h3; omega
  unfold cmpH
  rw [if_pos this]
theorem cmp_swap (a b : Hd) : cmpH a b = - cmpH b a := by
  unfold cmpH
  by_cases h1 : val a < val b
  · rw [if_pos h1, if_neg (by omega), if_pos h1]; try rfl
  · rw [if_neg h1]
    by_cases h2 : val b < val a
    · rw [if_pos h2, if_pos h2]; try rfl
    · rw [if_neg h2, if_neg h2, if_neg h1]; try rfl
theorem cmp_more {a b : Hd} (oa : OkH a) (ob : OkH b) {k : Nat} (hk : k < 5) (hs : ∀ j, j < k → fl a j = fl b j) (hl : fl b k < fl a k) : cmpH a b = 1 := by
  rw [cmp_swap, cmp_less ob oa hk (fun j hj => (hs j hj).symm) hl]; rfl
theorem cmp_self (a : Hd) : cmpH a a = 0 := by unfold cmpH; rw [if_neg (by omega), if_neg (by omega)]
theorem cmp_none {a b : Hd} (hs : ∀ j, j < 5 → fl a j = fl b j) : cmpH a b = 0 := by
  have : a = b := hd_ext (hs 0 (by omega)) (hs 1 (by omega)) (hs 2 (by omega)) (hs 3 (by omega)) (hs 4 (by omega))
  rw [this, cmp_self]
theorem num_append (x y : List Nat) : num (x ++ y) = num x * 256 ^ y.length + num y := by
  show (x ++ y).foldl _ 0 = _
  rw [List.foldl_append, foldl_num]
  rfl
theorem num_zeros : ∀ n, num (List.replicate n 0) = 0
  | 0 => rfl
  | n + 1 => by rw [List.replicate_succ, num_cons, num_zeros n]; omega
theorem num_ffs : ∀ n, num (List.replicate n 255) + 1 = 256 ^ n
  | 0 => rfl
  | n + 1 => by
    have ih := num_ffs n
    rw [List.replicate_succ, num_cons, List.length_replicate, Nat.pow_succ]
    omega
/-- The bytes behind place j turned to noughts. -/
def nxL (l : List Nat) (j : Nat) : List Nat := l.take j ++ List.replicate (13 - j) 0
theorem nxL_length {l : List Nat} (hl : l.length = 13) {j : Nat} (hj : j ≤ 13) : (nxL l j).length = 13 := by
  unfold nxL
  rw [List.length_append, List.length_take, List.length_replicate]; omega
theorem nxL_all {l : List Nat} (hl : l.length = 13) : nxL l 13 = l := by
  unfold nxL
  rw [← hl, List.take_length]; simp
theorem nxL_get {l : List Nat} (hl : l.length = 13) {j : Nat} (hj : j < 13) (h : j < (nxL l (j + 1)).length) : (nxL l (j + 1))[j] = l[j] := by
  have e : (nxL l (j + 1))[j]? = some (l[j]) := by
    unfold nxL
    rw [List.getElem?_append_left (by rw [List.length_take]; omega), List.getElem?_take_of_lt (by omega), List.getElem?_eq_getElem (by omega)]
  exact Option.some.inj ((List.getElem?_eq_getElem h).symm.trans e)
theorem nxL_set {l : List Nat} (hl : l.length = 13) {j : Nat} (hj : j < 13) (x : Nat) : (nxL l (j + 1)).set j x = l.take j ++ x :: List.replicate (12 - j) 0 := by
  unfold nxL
  rw [List.take_succ_eq_append_getElem (by omega), List.append_assoc, List.set_append_right _ _ (by rw [List.length_take]; omega), List.length_take, show j - min j l.length = 0 by omega]
  rw [show 13 - (j + 1) = 12 - j by omega]
  rfl
theorem nxL_zero {l : List Nat} (hl : l.length = 13) {j : Nat} (hj : j < 13) : (nxL l (j + 1)).set j 0 = nxL l j := by
  rw [nxL_set hl hj]
  unfold nxL
  rw [show 13 - j = (12 - j) + 1 by omega, List.replicate_succ]
theorem drop_ffs {l : List Nat} (hl : l.length = 13) {j : Nat} (hj : j ≤ 13) (hs : ∀ k (hk : k < l.length), j ≤ k → l[k] = 255) : l = l.take j ++ List.replicate (13 - j) 255 := by
  conv => lhs; rw [← List.take_append_drop j l]
  congr 1
  apply List.ext_getElem
  · rw [List.length_drop, List.length_replicate]; omega
  · intro k h1 h2
    rw [List.getElem_drop, List.getElem_replicate]
    exact hs _ _ (by omega)
theorem nx_bd {h : Hd} {j x : Nat} (hx : x < 256) : BdB ((bytesH h).take j ++ x :: List.replicate (12 - j) 0) := by
  intro b hb
  rw [List.mem_append, List.mem_cons] at hb
  rcases hb with hb | hb | hb
  · exact bytesH_bd h b (List.mem_of_mem_take hb)
  · omega
  · rw [List.eq_of_mem_replicate hb]; decide
/-- One more than its bytes. -/
theorem nx_hd {h : Hd} (o : OkH h) {j : Nat} (hj : j < 13) (hs : ∀ k (hk : k < (bytesH h).length), j + 1 ≤ k → (bytesH h)[k] = 255) (ht : (bytesH h)[j]'hj < 255) :
    hasN h = true ∧ hdB ((bytesH h).take j ++ ((bytesH h)[j]'hj + 1) :: List.replicate (12 - j) 0) = nxt h := by
  have hl := bytesH_length h
  have e1 := drop_ffs hl (show j + 1 ≤ 13 by omega) hs
  have e0 : num (bytesH h) = num ((bytesH h).take j) * 256 ^ (13 - j) + ((bytesH h)[j]'hj * 256 ^ (12 - j) + num (List.replicate (12 - j) 255)) := by
    conv => lhs; rw [e1]
    rw [List.take_succ_eq_append_getElem (by omega), List.append_assoc, num_append, List.singleton_append, num_cons, List.length_cons, List.length_replicate, show 13 - (j + 1) = 12 - j by omega, show 12 - j + 1 = 13 - j by omega]
    rfl
  have hlen : ((bytesH h).take j ++ ((bytesH h)[j]'hj + 1) :: List.replicate (12 - j) 0).length = 13 := by
    rw [List.length_append, List.length_cons, List.length_take, List.length_replicate]; omega
  have hbd := nx_bd (h := h) (j := j) (x := (bytesH h)[j]'hj + 1) (by omega)
  have e2 : num ((bytesH h).take j ++ ((bytesH h)[j]'hj + 1) :: List.replicate (12 - j) 0) = num (bytesH h) + 1 := by
    rw [e0, num_append, num_cons, List.length_cons, List.length_replicate, num_zeros, show 12 - j + 1 = 13 - j by omega, Nat.add_mul, Nat.one_mul]
    have := num_ffs (12 - j)
    omega
  have ok' := okH_hdB hlen hbd
  have e3 := num_bytes ok'
  rw [bytes_hdB hlen hbd, e2, num_bytes o] at e3
  have hN : hasN h = true := decide_eq_true (by rw [e3]; exact val_lt ok')
  have hv := nxt_val o hN
  exact ⟨hN, val_inj ok' hv.1 (by rw [hv.2, ← e3])⟩
theorem nx_end {h : Hd} (o : OkH h) (hs : ∀ k (hk : k < (bytesH h).length), 0 ≤ k → (bytesH h)[k] = 255) : hasN h = false := by
  have e1 := drop_ffs (bytesH_length h) (Nat.zero_le _) hs
  have e2 := num_bytes o
  rw [e1, List.take_zero, List.nil_append] at e2
  have e3 : num (List.replicate (13 - 0) 255) = 20282409603651670423947251286015 := by decide +kernel
  rw [e3] at e2
  exact decide_eq_false (by omega)
theorem dfr_step {x y : Nat → Nat} : ∀ (k n : Nat), (∀ j, j < k → x j = y j) → dfr x y (k + n) 0 = dfr x y n k
  | 0, n, _ => by rw [Nat.zero_add]
  | k + 1, n, h => by
    rw [show k + 1 + n = k + (n + 1) by omega, dfr_step k (n + 1) (fun j hj => h j (by omega))]
    show (if x k = y k then dfr x y n (k + 1) else _) = _
    rw [if_pos (h k (by omega))]
theorem dif_at {a b : Hd} {k : Nat} (hk : k < 104) (h : ∀ j, j < k → bitH a j = bitH b j) (hn : bitH a k ≠ bitH b k) : difH a b = (k : Int) := difH_uniq hk hn h
theorem dif_none {a b : Hd} (h : ∀ j, j < 104 → bitH a j = bitH b j) : difH a b = -1 := by
  unfold difH
  rw [show 104 = 104 + 0 from rfl, dfr_step 104 0 h]; rfl
end Go.Proofs.Ythfjdoenofkghaa
