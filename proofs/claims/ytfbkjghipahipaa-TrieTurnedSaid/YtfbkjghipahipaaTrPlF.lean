/-
  How many nodes a list of keys makes; lists with a key more, with one less; what holds of a whole trie. No program is named here.
-/
import Derived.Test.YtfbkjghipahipaaTrPlE
namespace Go.Proofs.Ytfbkjghipahipaa
set_option linter.unusedVariables false
set_option linter.unusedSimpArgs false

def cq (q : Nat → Bool) (d : Nat) : Nat → Nat
  | 0 => 0
  | m + 1 => cq q d m + (if d ≤ m ∧ q m = true then 1 else 0)
theorem cq_step (q : Nat → Bool) (d : Nat) : ∀ m, cq q d m = cq q (d + 1) m + (if d < m ∧ q d = true then 1 else 0)
  | 0 => by simp [cq]
  | m + 1 => by
    simp only [cq]
    rw [cq_step q d m]
    by_cases h1 : d = m
    · subst h1
      rw [if_neg (show ¬ (d < d ∧ _) by omega), if_neg (show ¬ (d + 1 ≤ d ∧ _) by omega)]
      by_cases hq : q d = true
      · rw [if_pos ⟨Nat.le_refl _, hq⟩, if_pos ⟨by omega, hq⟩]
      · rw [if_neg (fun h => hq h.2), if_neg (fun h => hq h.2)]
    · by_cases h2 : d < m
      · by_cases hq : q d = true <;> by_cases hm : q m = true <;> simp [hq, hm, h2, show d ≤ m by omega, show d + 1 ≤ m by omega, show d < m + 1 by omega] <;> omega
      · rw [if_neg (show ¬ (d < m ∧ _) by omega), if_neg (show ¬ (d ≤ m ∧ _) by omega), if_neg (show ¬ (d + 1 ≤ m ∧ _) by omega), if_neg (show ¬ (d < m + 1 ∧ _) by omega)]
theorem cq_congr {q q' : Nat → Bool} {d : Nat} : ∀ {m : Nat}, (∀ j, d ≤ j → j < m → q j = q' j) → cq q d m = cq q' d m
  | 0, _ => rfl
  | m + 1, h => by
    simp only [cq]
    rw [cq_congr (m := m) (fun j h1 h2 => h j h1 (by omega))]
    by_cases hd : d ≤ m
    · rw [h m hd (by omega)]
    · rw [if_neg (fun h => hd h.1), if_neg (fun h => hd h.1)]
def knw (W : Nat) (p : Option En) (e : En) (j : Nat) : Bool := match p with | none => false | some p => decide (j ≤ p.n) && (ct W p.k j == ct W e.k j)
def newN (W d : Nat) (p : Option En) (e : En) : Nat := cq (fun j => !knw W p e j) d (e.n + 1)
def cntL (W d : Nat) : Option En → List En → Nat
  | _, [] => 0
  | p, e :: l => newN W d p e + cntL W d (some e) l
def lastO : Option En → List En → Option En
  | p, [] => p
  | _, e :: l => lastO (some e) l
theorem cnt_app (W d : Nat) : ∀ (X Y : List En) (p : Option En), cntL W d p (X ++ Y) = cntL W d p X + cntL W d (lastO p X) Y
  | [], Y, p => by simp [cntL, lastO]
  | e :: X, Y, p => by
    simp only [List.cons_append, cntL, lastO]
    rw [cnt_app W d X Y (some e)]; omega
theorem lastO_mem : ∀ (X : List En) (p : Option En), lastO p X = p ∨ ∃ e ∈ X, lastO p X = some e
  | [], p => .inl rfl
  | e :: X, p => by
    simp only [lastO]
    rcases lastO_mem X (some e) with h | ⟨x, hx, h⟩
    · exact .inr ⟨e, by simp, h⟩
    · exact .inr ⟨x, by simp [hx], h⟩
theorem cnt_none {W d : Nat} {p : Option En} {Y : List En} (h : ∀ y ∈ Y, ∀ j, d ≤ j → knw W p y j = false) : cntL W d p Y = cntL W d none Y := by
  cases Y with
  | nil => rfl
  | cons y Y =>
    simp only [cntL]
    congr 1
    unfold newN
    exact cq_congr (fun j h1 h2 => by rw [h y (by simp) j h1]; rfl)
theorem cnt_low {W d K : Nat} : ∀ {L : List En} {p : En}, (∀ e ∈ L, d ≤ e.n ∧ ct W e.k d = K) → d ≤ p.n → ct W p.k d = K → cntL W d (some p) L = cntL W (d + 1) (some p) L
  | [], p, _, _, _ => rfl
  | e :: L, p, h, h1, h2 => by
    have he := h e (by simp)
    simp only [cntL]
    rw [cnt_low (L := L) (p := e) (fun x hx => h x (by simp [hx])) he.1 he.2]
    congr 1
    unfold newN
    rw [cq_step, if_neg]
    · omega
    · simp [knw, h1, h2, he.2]
theorem cnt_top {W d K : Nat} {L : List En} (h : ∀ e ∈ L, d ≤ e.n ∧ ct W e.k d = K) : cntL W d none L = cntL W (d + 1) none L + (if L = [] then 0 else 1) := by
  cases L with
  | nil => rfl
  | cons e L =>
    have he := h e (by simp)
    simp only [cntL]
    rw [cnt_low (L := L) (p := e) (fun x hx => h x (by simp [hx])) he.1 he.2]
    unfold newN
    rw [cq_step, if_pos (by simp [knw]; omega)]
    simp
    omega
theorem ct_key {W h k key : Nat} (hW : h ≤ W) (hk : key % 2 ^ h = 0) (k1 : key ≤ k) (k2 : k < key + 2 ^ h) : ct W k (W - h) = key := by
  apply word_eq (h := h) ?_ ?_ hk ?_
  · unfold ct
    rw [show W - (W - h) = h by omega]
    obtain ⟨c, hc⟩ := Nat.dvd_of_mod_eq_zero hk
    have e := Nat.div_add_mod k (2 ^ h)
    have : c ≤ k / 2 ^ h := by
      rw [Nat.le_div_iff_mul_le (Nat.two_pow_pos h), Nat.mul_comm]; omega
    have := Nat.mul_le_mul_left (2 ^ h) this
    omega
  · have := ct_le W k (W - h); omega
  · have := ct_mod W k (W - h); rw [show W - (W - h) = h by omega] at this; exact this
theorem ct_ge {W k j h m : Nat} (hj : W - j ≤ h) (hm : m % 2 ^ h = 0) (hk : m ≤ k) : m ≤ ct W k j := by
  unfold ct
  obtain ⟨c, hc⟩ := Nat.dvd_of_mod_eq_zero hm
  obtain ⟨i, rfl⟩ : ∃ i, h = (W - j) + i := ⟨h - (W - j), by omega⟩
  have e := Nat.div_add_mod k (2 ^ (W - j))
  rw [Nat.pow_add, Nat.mul_assoc] at hc
  have : 2 ^ i * c ≤ k / 2 ^ (W - j) := by
    rw [Nat.le_div_iff_mul_le (Nat.two_pow_pos _), Nat.mul_comm]; omega
  have := Nat.mul_le_mul_left (2 ^ (W - j)) this
  omega
theorem num_cnt {W : Nat} {A : List Nd} : ∀ {h r key : Nat}, h ≤ W → key % 2 ^ h = 0 → okT A h r → num A h r = cntL W (W - h) none (tel W A h r key)
  | 0, r, key, hW, hk, o => by
    simp only [num, tel]
    by_cases r0 : r = 0
    · simp [r0, cntL]
    · rw [if_neg r0, if_neg r0]
      simp only [okT] at o
      rcases o with o | ⟨_, _, _, o4⟩
      · omega
      · simp only [ownE, o4, if_true, cntL, newN, Nat.sub_zero, Nat.add_zero]
        rw [cq_step, if_pos (by simp [knw])]
        have : ∀ (q : Nat → Bool) (m d : Nat), m ≤ d → cq q d m = 0 := by
          intro q m
          induction m with
          | zero => intros; rfl
          | succ m ih => intro d hd; simp only [cq]; rw [ih d (by omega), if_neg (by omega)]
        rw [this _ _ _ (Nat.le_refl _)]
  | h + 1, r, key, hW, hk, o => by
    by_cases r0 : r = 0
    · subst r0; rw [num_z, tel_z]; rfl
    · obtain ⟨m1, m2⟩ := mod_half hk
      have hne := ok_ne W o r0 key
      have ha : ∀ e ∈ tel W A (h + 1) r key, W - (h + 1) ≤ e.n ∧ ct W e.k (W - (h + 1)) = key := fun e he => by
        have := rng hW hk he
        exact ⟨this.2.2.1, ct_key hW hk this.1 this.2.1⟩
      rw [cnt_top ha, if_neg hne]
      simp only [okT] at o
      rcases o with o | ⟨_, o2, o3, _⟩
      · omega
      · simp only [num]
        rw [if_neg r0, num_cnt (W := W) (key := key) (by omega) m1 o2, num_cnt (W := W) (key := key + 2 ^ h) (by omega) m2 o3, show W - (h + 1) + 1 = W - h by omega]
        have tt : tel W A (h + 1) r key = ownE (gt A r) key (W - (h + 1)) ++ (tel W A h (gt A r).a key ++ tel W A h (gt A r).b (key + 2 ^ h)) := by simp only [tel]; rw [if_neg r0]
        rw [tt, cnt_app, cnt_app]
        have c0 : cntL W (W - h) none (ownE (gt A r) key (W - (h + 1))) = 0 := by
          unfold ownE
          split
          · simp only [cntL, newN, Nat.add_zero]
            have : ∀ (q : Nat → Bool) (m d : Nat), m ≤ d → cq q d m = 0 := by
              intro q m
              induction m with
              | zero => intros; rfl
              | succ m ih => intro d hd; simp only [cq]; rw [ih d (by omega), if_neg (by omega)]
            exact this _ _ _ (by omega)
          · rfl
        have hl : ∀ y j, W - h ≤ j → knw W (lastO none (ownE (gt A r) key (W - (h + 1)))) y j = false := fun y j hj => by
          rcases lastO_mem (ownE (gt A r) key (W - (h + 1))) none with q | ⟨e, he, q⟩
          · rw [q]; rfl
          · rw [q]; rw [own_mem] at he; rw [he.2]; simp [knw]; omega
        rw [c0, cnt_none (fun y _ j hj => hl y j hj), cnt_none (p := lastO _ (tel W A h (gt A r).a key)) (fun y hy j hj => ?_)]
        · omega
        · rcases lastO_mem (tel W A h (gt A r).a key) (lastO none (ownE (gt A r) key (W - (h + 1)))) with q | ⟨e, he, q⟩
          · rw [q]; exact hl y j hj
          · rw [q]
            have r1 := rng (by omega) m1 he
            have r2 := rng (by omega) m2 hy
            have g1 := ct_le W e.k j
            have g2 := ct_ge (W := W) (j := j) (h := h) (by omega) m2 r2.1
            simp [knw]; omega
/-- A list with a key more, at its place. -/
def insL (x : En) : List En → List En
  | [] => [x]
  | y :: l => if x.k < y.k ∨ (x.k = y.k ∧ x.n < y.n) then x :: y :: l else y :: insL x l
theorem ins_mem (x : En) : ∀ (l : List En) (e : En), e ∈ insL x l ↔ e = x ∨ e ∈ l
  | [], e => by simp [insL]
  | y :: l, e => by
    simp only [insL]
    split
    · simp
    · simp only [List.mem_cons, ins_mem x l e]
      constructor
      · rintro (h | h | h) <;> simp [h]
      · rintro (h | h | h) <;> simp [h]
theorem ins_srt (x : En) : ∀ (l : List En), srt l → (∀ e ∈ l, ¬ (e.k = x.k ∧ e.n = x.n)) → srt (insL x l)
  | [], _, _ => by simp [insL, srt]
  | y :: l, h, hx => by
    unfold srt at h
    rw [List.pairwise_cons] at h
    simp only [insL]
    split
    · rename_i hlt
      unfold srt
      rw [List.pairwise_cons, List.pairwise_cons]
      refine ⟨fun e he => ?_, h⟩
      rcases List.mem_cons.1 he with q | q
      · subst q; exact hlt
      · exact ltE_tr hlt (h.1 e q)
    · rename_i hlt
      unfold srt
      rw [List.pairwise_cons]
      refine ⟨fun e he => ?_, ins_srt x l h.2 (fun e he => hx e (by simp [he]))⟩
      rcases (ins_mem x l e).1 he with q | q
      · subst q
        have := hx y (by simp)
        unfold ltE; omega
      · exact h.1 e q
def same (k n : Nat) (e : En) : Bool := e.k == k && e.n == n
def idx (L : List En) (k n : Nat) : Nat := L.findIdx (same k n)
def putL (L : List En) (x : En) : List En := if idx L x.k x.n < L.length then L.set (idx L x.k x.n) x else insL x L
def cutL (L : List En) (k n : Nat) : List En := L.take (idx L k n) ++ L.drop (idx L k n + 1)
theorem idx_at {L : List En} {k n : Nat} (h : idx L k n < L.length) : (L[idx L k n]'h).k = k ∧ (L[idx L k n]'h).n = n := by
  have : same k n (L[idx L k n]'h) = true := List.findIdx_getElem (p := same k n) (xs := L) (w := h)
  generalize L[idx L k n]'h = e at *
  unfold same at this
  simpa using this
theorem idx_no {L : List En} {k n : Nat} (h : ¬ idx L k n < L.length) : ∀ e ∈ L, ¬ (e.k = k ∧ e.n = n) := fun e he hh => by
  apply h
  exact List.findIdx_lt_length_of_exists ⟨e, he, by unfold same; simp [hh.1, hh.2]⟩
theorem val_idx (L : List En) (k n : Nat) : val L k n = if h : idx L k n < L.length then some (L[idx L k n]'h).v else none := by
  unfold val
  show (L.find? (same k n)).map _ = _
  by_cases h : idx L k n < L.length
  · rw [dif_pos h]
    have : L.find? (same k n) = some (L[idx L k n]'h) := by
      rw [List.find?_eq_some_iff_getElem]
      refine ⟨by have := idx_at h; unfold same; simp [this.1, this.2], idx L k n, h, rfl, fun j hj => ?_⟩
      have := List.not_of_lt_findIdx hj
      simpa using this
    rw [this]; rfl
  · rw [dif_neg h]
    have : L.find? (same k n) = none := by
      rw [List.find?_eq_none]
      intro e he
      have := idx_no h e he
      unfold same; simpa using this
    rw [this]; rfl
theorem put_ok {L : List En} (h : srt L) (x : En) : srt (putL L x) ∧ ∀ e, e ∈ putL L x ↔ e = x ∨ (e ∈ L ∧ ¬ (e.k = x.k ∧ e.n = x.n)) := by
  unfold putL
  by_cases hi : idx L x.k x.n < L.length
  · rw [if_pos hi]
    have ha := idx_at hi
    generalize idx L x.k x.n = i at *
    have hu : ∀ j (hj : j < L.length), j ≠ i → ¬ ((L[j]'hj).k = x.k ∧ (L[j]'hj).n = x.n) := fun j hj hne hh => by
      have hp := List.pairwise_iff_getElem.1 h
      rcases Nat.lt_or_gt_of_ne hne with g | g
      · have := hp j i hj hi g; unfold ltE at this; omega
      · have := hp i j hi hj g; unfold ltE at this; omega
    constructor
    · unfold srt
      rw [List.pairwise_iff_getElem]
      intro a b h1 h2 hab
      rw [List.length_set] at h1 h2
      have hp := List.pairwise_iff_getElem.1 h a b h1 h2 hab
      rw [List.getElem_set, List.getElem_set]
      unfold ltE at *
      split
      · rename_i q; subst q
        rw [if_neg (by omega)]; omega
      · split
        · rename_i q; subst q; omega
        · exact hp
    · intro e
      rw [List.mem_iff_getElem]
      constructor
      · rintro ⟨j, hj, rfl⟩
        rw [List.length_set] at hj
        rw [List.getElem_set]
        split
        · exact .inl rfl
        · rename_i q
          exact .inr ⟨List.getElem_mem _, hu j hj (fun e => q e.symm)⟩
      · rintro (q | ⟨q, hh⟩)
        · exact ⟨i, by rw [List.length_set]; exact hi, by rw [List.getElem_set, if_pos rfl, q]⟩
        · obtain ⟨j, hj, rfl⟩ := List.mem_iff_getElem.1 q
          exact ⟨j, by rw [List.length_set]; exact hj, by rw [List.getElem_set, if_neg (fun e => by subst e; exact hh ha)]⟩
  · rw [if_neg hi]
    have hn := idx_no hi
    refine ⟨ins_srt x L h hn, fun e => ?_⟩
    rw [ins_mem]
    constructor
    · rintro (q | q)
      · exact .inl q
      · exact .inr ⟨q, hn e q⟩
    · rintro (q | q)
      · exact .inl q
      · exact .inr q.1
theorem cut_ok {L : List En} (h : srt L) (k n : Nat) (hi : idx L k n < L.length) : srt (cutL L k n) ∧ ∀ e, e ∈ cutL L k n ↔ e ∈ L ∧ ¬ (e.k = k ∧ e.n = n) := by
  unfold cutL
  have ha := idx_at hi
  generalize idx L k n = i at *
  have el : L = L.take i ++ (L[i]'hi) :: L.drop (i + 1) := by
    rw [← List.drop_eq_getElem_cons hi, List.take_append_drop]
  have hs : srt (L.take i ++ (L[i]'hi) :: L.drop (i + 1)) := by rw [← el]; exact h
  generalize L[i]'hi = y at *
  generalize L.take i = X at *
  generalize L.drop (i + 1) = Y at *
  subst el
  unfold srt at *
  rw [List.pairwise_append, List.pairwise_cons] at hs
  obtain ⟨h1, ⟨h2, h3⟩, h4⟩ := hs
  constructor
  · rw [List.pairwise_append]
    exact ⟨h1, h3, fun a ha b hb => h4 a ha b (by simp [hb])⟩
  · intro e
    simp only [List.mem_append, List.mem_cons]
    constructor
    · rintro (q | q)
      · refine ⟨.inl q, fun hh => ?_⟩
        have := h4 e q y (by simp); unfold ltE at this; omega
      · refine ⟨.inr (.inr q), fun hh => ?_⟩
        have := h2 e q; unfold ltE at this; omega
    · rintro ⟨q | q | q, hh⟩
      · exact .inl q
      · subst q; exact absurd ha hh
      · exact .inr q
end Go.Proofs.Ytfbkjghipahipaa
