/-
  Lists of rules that may be; a list without one of its rules, a list the other way round. Written by tools/mkNsSh.py.
-/
import Derived.Test.YtcjpjofoddpfhaaNsAw
namespace Go.Proofs.Ytcjpjofoddpfhaa
open Go.RowKit
set_option linter.unusedVariables false
set_option linter.unusedSimpArgs false


theorem setK_all {l : List Ru} (h : ∀ k (hk : k < l.length), okR l[k] = true ∧ fnd (l.take k) (l[k]).i = -1) (hl : l.length ≤ 64) : ∀ d k, l.length - k = d → k ≤ l.length → setK 64 (l.take k) (l.drop k) = 0
  | 0, k, hd, hk => setK_end (by omega)
  | d + 1, k, hd, hk => by
    have hlt : k < l.length := by omega
    obtain ⟨h1, h2⟩ := h k hlt
    rw [setK_next hlt (joinE_ok.2 ⟨(okR_err _).1 h1, h2⟩) (by omega)]
    exact setK_all h hl d (k + 1) (by omega) hlt
theorem setE_of {l : List Ru} (h1 : ∀ R ∈ l, okR R = true) (h2 : l.Pairwise (fun a b => a.i ≠ b.i)) (h3 : l.length ≤ 64) : setE l 64 = 0 := by
  have := setK_all (l := l) (fun k hk => ⟨h1 _ (List.getElem_mem hk), ?_⟩) h3 l.length 0 (by omega) (Nat.zero_le _)
  · exact this
  · rw [fnd_none]
    intro R hR
    obtain ⟨j, hj, rfl⟩ := List.mem_iff_getElem.1 hR
    rw [List.length_take] at hj
    rw [List.getElem_take]
    exact List.pairwise_iff_getElem.1 h2 j k (by omega) hk (by omega)
theorem setE_to {l : List Ru} (h : setE l 64 = 0) : (∀ R ∈ l, okR R = true) ∧ l.Pairwise (fun a b => a.i ≠ b.i) ∧ l.length ≤ 64 := by
  have o := setE_ok h
  refine ⟨fun R hR => ?_, List.pairwise_iff_getElem.2 fun i j hi hj hij => o.ne hij hj, ?_⟩
  · obtain ⟨k, hk, rfl⟩ := List.mem_iff_getElem.1 hR
    exact o.may k hk
  · rcases o.few with e | e
    · rw [e]; simp
    · omega
/-- Another Id, another action. -/
def rn (R : Ru) (k : Nat) : Ru := ⟨((k + 1 : Nat) : Int), R.s, R.sl, R.d, R.dl, R.p, R.q, R.m, 4⟩
theorem rn_ok {R : Ru} (h : okR R = true) {k : Nat} (hk : k < 64) : okR (rn R k) = true := by
  rw [okR_iff] at h ⊢
  obtain ⟨_, h2, h3, h4, h5, h6, _⟩ := h
  exact ⟨⟨by show (1 : Int) ≤ ((k + 1 : Nat) : Int); omega, by show ((k + 1 : Nat) : Int) ≤ 999999; omega⟩, h2, h3, h4, h5, h6, by show (1 : Int) ≤ 4 ∧ (4 : Int) ≤ 4; decide⟩
theorem rn_bd {R : Ru} (h : BdR R) {k : Nat} (hk : k < 64) : BdR (rn R k) := by
  obtain ⟨h1, h2, h3, h4, h5, h6, h7, h8, _, h10, h11, _⟩ := h
  exact ⟨h1, h2, h3, h4, h5, h6, h7, h8, by show I64 ((k + 1 : Nat) : Int); unfold I64; omega, h10, h11, by show I64 4; unfold I64; decide⟩
def bkL (l : List Ru) (k : Nat) : List Ru := (List.range k).map fun i => rn (l.getD (l.length - 1 - i) ruZ0) i
theorem bkL_succ (l : List Ru) (k : Nat) : bkL l (k + 1) = bkL l k ++ [rn (l.getD (l.length - 1 - k) ruZ0) k] := by
  unfold bkL; rw [List.range_succ, List.map_append]; rfl
theorem bkL_map (l : List Ru) {A : Type} (f : Ru → A) (hf : ∀ R k, f (rn R k) = f R) : (bkL l l.length).map f = (l.map f).reverse := by
  apply List.ext_getElem
  · simp [bkL]
  · intro i h1 h2
    have hi : i < l.length := by simpa [bkL] using h1
    simp only [bkL, List.getElem_map, List.getElem_range, hf, List.getElem_reverse, List.length_map]
    congr 1
    simp [show l.length - 1 - i < l.length by omega]
theorem bkL_ok {l : List Ru} (h : setE l 64 = 0) : setE (bkL l l.length) 64 = 0 := by
  obtain ⟨h1, _, h3⟩ := setE_to h
  refine setE_of (fun R hR => ?_) (List.pairwise_iff_getElem.2 fun i j hi hj hij => ?_) (by simpa [bkL] using h3)
  · obtain ⟨i, hi, rfl⟩ := List.mem_map.1 hR
    rw [List.mem_range] at hi
    refine rn_ok (h1 _ ?_) (by omega)
    have : l.length - 1 - i < l.length := by omega
    simp [this]
  · simp only [bkL, List.getElem_map, List.getElem_range]
    show ((i + 1 : Nat) : Int) ≠ ((j + 1 : Nat) : Int)
    omega
theorem bkL_bd {l : List Ru} (h : ∀ R ∈ l, BdR R) (hl : l.length ≤ 64) : ∀ R ∈ bkL l l.length, BdR R := fun R hR => by
  obtain ⟨i, hi, rfl⟩ := List.mem_map.1 hR
  rw [List.mem_range] at hi
  refine rn_bd (h _ ?_) (by omega)
  have : l.length - 1 - i < l.length := by omega
  simp [this]
/-- Without the rule at a place, as far as k. -/
def lsL (l : List Ru) (a k : Nat) : List Ru := ((List.range k).filter fun i => decide (i ≠ a)).map fun i => l.getD i ruZ0
theorem lsL_succ (l : List Ru) (a k : Nat) : lsL l a (k + 1) = if k = a then lsL l a k else lsL l a k ++ [l.getD k ruZ0] := by
  unfold lsL
  rw [List.range_succ, List.filter_append, List.map_append]
  by_cases e : k = a
  · rw [if_pos e]; simp [e]
  · rw [if_neg e]; simp [e]
theorem lsL_eq {l : List Ru} {a : Nat} (ha : a < l.length) : ∀ k, k ≤ l.length → lsL l a k = if k ≤ a then l.take k else l.take a ++ (l.take k).drop (a + 1)
  | 0, _ => by simp [lsL]
  | k + 1, hk => by
    rw [lsL_succ, lsL_eq ha k (by omega)]
    have hg : l.getD k ruZ0 = l[k]'(by omega) := by simp [show k < l.length by omega]
    by_cases e : k = a
    · subst e
      rw [if_pos rfl, if_pos (Nat.le_refl _), if_neg (by omega), List.drop_of_length_le (by rw [List.length_take]; omega), List.append_nil]
    · rw [if_neg e, hg]
      by_cases h : k ≤ a
      · rw [if_pos h, if_pos (by omega), take_at (by omega)]
      · rw [if_neg h, if_neg (by omega), take_at (by omega : k < l.length), List.append_assoc, List.drop_append_of_le_length (by rw [List.length_take]; omega)]
theorem lsL_all {l : List Ru} {a : Nat} (ha : a < l.length) : lsL l a l.length = l.take a ++ l.drop (a + 1) := by
  rw [lsL_eq ha l.length (Nat.le_refl _), if_neg (by omega), List.take_length]
theorem split_at {l : List Ru} {a : Nat} (ha : a < l.length) : l = l.take a ++ l[a] :: l.drop (a + 1) := by
  rw [← List.drop_eq_getElem_cons ha, List.take_append_drop]
theorem lsL_sub {l : List Ru} {a : Nat} (ha : a < l.length) : (lsL l a l.length).Sublist l := by
  rw [lsL_all ha]
  have : (l.take a ++ l.drop (a + 1)).Sublist (l.take a ++ l[a] :: l.drop (a + 1)) := List.Sublist.append_left (List.sublist_cons_self _ _) _
  rwa [← split_at ha] at this
theorem lsL_ok {l : List Ru} {a : Nat} (ha : a < l.length) (h : setE l 64 = 0) : setE (lsL l a l.length) 64 = 0 := by
  obtain ⟨h1, h2, h3⟩ := setE_to h
  have hs := lsL_sub ha
  exact setE_of (fun R hR => h1 R (hs.subset hR)) (h2.sublist hs) (Nat.le_trans hs.length_le h3)
theorem tup_cons (R : Ru) (l : List Ru) : tupN (R :: l) = cS R.p * cS R.q + tupN l := by simp [tupN]
theorem tup_app (l k : List Ru) : tupN (l ++ k) = tupN l + tupN k := by simp [tupN]
theorem cS_one {R : Ru} (h : okR R = true) (b : BdR R) : 1 ≤ cS R.p * cS R.q := by
  obtain ⟨_, _, _, h1, h2, _⟩ := (okR_iff R).1 h
  unfold okI at h1 h2
  have a1 := cS_pos (s := R.p) (by simpa using h1) b.2.2.2.1
  have a2 := cS_pos (s := R.q) (by simpa using h2) b.2.2.2.2.2.1
  exact Nat.mul_le_mul a1 a2
theorem tup_len {l : List Ru} (h : ∀ R ∈ l, okR R = true ∧ BdR R) : l.length ≤ tupN l := by
  induction l with
  | nil => simp [tupN]
  | cons R l ih =>
    rw [tup_cons, List.length_cons]
    have := cS_one (h R (List.mem_cons_self ..)).1 (h R (List.mem_cons_self ..)).2
    have := ih fun R hR => h R (List.mem_cons_of_mem _ hR)
    omega
theorem sum_rev (l : List Nat) : l.reverse.sum = l.sum := by
  induction l with
  | nil => rfl
  | cons a l ih => rw [List.reverse_cons, List.sum_append, ih, List.sum_cons]; simp; omega
/-- What the law asks of the numbers. -/
theorem shrinks {l : List Ru} {a : Nat} (ha : a < l.length) (h : setE l 64 = 0) (b : ∀ R ∈ l, BdR R) :
    prnL (lsL l a l.length) < prnL l ∧ grdL (lsL l a l.length) < grdL l ∧ tupL (lsL l a l.length) < tupL l ∧ prnL (bkL l l.length) = prnL l ∧ grdL (bkL l l.length) = grdL l ∧ tupL (bkL l l.length) = tupL l ∧ l.length ≤ grdL l ∧ l.length ≤ tupL l ∧ grdL l ≤ prnL l := by
  obtain ⟨h1, h2, h3⟩ := setE_to h
  have hx : ∀ R ∈ l, witX (sr R) (sr R) = true ∧ witX (ds R) (ds R) = true := fun R hR => by
    obtain ⟨o1, _, o2, _⟩ := okR_sr (h1 R hR) (b R hR)
    exact ⟨witX_self o1, witX_self o2⟩
  have hp : ∀ r ∈ l.map pr, witX r.1 r.1 = true ∧ witX r.2 r.2 = true := fun r hr => by
    obtain ⟨R, hR, rfl⟩ := List.mem_map.1 hr
    exact hx R hR
  have hm := List.getElem_mem ha
  unfold prnL grdL tupL
  simp only [if_pos h, if_pos (lsL_ok ha h), if_pos (bkL_ok h)]
  have e1 : (lsL l a l.length).map pr = (l.take a).map pr ++ (l.drop (a + 1)).map pr := by rw [lsL_all ha, List.map_append]
  have e2 : l.map pr = (l.take a).map pr ++ pr l[a] :: (l.drop (a + 1)).map pr := by
    have := congrArg (List.map pr) (split_at ha)
    rw [List.map_append, List.map_cons] at this
    exact this
  have e3 : (bkL l l.length).map pr = (l.map pr).reverse := bkL_map l pr (fun _ _ => rfl)
  refine ⟨?_, ?_, ?_, ?_, ?_, ?_, ?_, ?_, ?_⟩
  · rw [e1, e2]; exact prn_less _ _ _ (hx _ hm).1 (hx _ hm).2
  · rw [e1, e2]; exact grd_less _ _ _ (hx _ hm).1
  · rw [lsL_all ha, tup_app]
    have : tupN l = tupN (l.take a) + (cS l[a].p * cS l[a].q + tupN (l.drop (a + 1))) := by
      have := congrArg tupN (split_at ha)
      rw [tup_app, tup_cons] at this
      exact this
    have := cS_one (h1 _ hm) (b _ hm)
    omega
  · rw [e3]; exact prn_perm (List.reverse_perm _)
  · rw [e3]; exact grd_perm (List.reverse_perm _)
  · unfold tupN
    rw [bkL_map l (fun R => cS R.p * cS R.q) (fun _ _ => rfl), sum_rev]
  · have := grd_len (W := witX) (l := l.map pr) (fun r hr => (hp r hr).1)
    simpa using this
  · exact tup_len fun R hR => ⟨h1 R hR, b R hR⟩
  · exact prn_grd fun r hr => (hp r hr).2
end Go.Proofs.Ytcjpjofoddpfhaa
