/-
  Sums over the unlike members of a list, as plain mathematics: how large lists of rules are. No program is named here.
-/
import Derived.Below
namespace Go.Proofs.YtgidohnikggjfaaGreat
set_option linter.unusedVariables false
set_option linter.unusedSimpArgs false

def sumF (f : Nat × Nat → Nat) (l : List (Nat × Nat)) : Nat := (l.map f).sum
theorem sumF_nil (f : Nat × Nat → Nat) : sumF f [] = 0 := rfl
theorem sumF_cons (f : Nat × Nat → Nat) (a : Nat × Nat) (l : List (Nat × Nat)) : sumF f (a :: l) = f a + sumF f l := by simp [sumF]
theorem sumF_app (f : Nat × Nat → Nat) (l m : List (Nat × Nat)) : sumF f (l ++ m) = sumF f l + sumF f m := by simp [sumF]
theorem sumF_perm {f : Nat × Nat → Nat} {l m : List (Nat × Nat)} (h : l.Perm m) : sumF f l = sumF f m := by
  induction h with
  | nil => rfl
  | cons a _ ih => rw [sumF_cons, sumF_cons, ih]
  | swap a b l => simp only [sumF_cons]; omega
  | trans _ _ i1 i2 => rw [i1, i2]
theorem sumF_congr {f g : Nat × Nat → Nat} {l : List (Nat × Nat)} (h : ∀ x ∈ l, f x = g x) : sumF f l = sumF g l := by
  unfold sumF; rw [List.map_congr_left h]
theorem sumF_le {f g : Nat × Nat → Nat} {l : List (Nat × Nat)} (h : ∀ x ∈ l, f x ≤ g x) : sumF f l ≤ sumF g l := by
  induction l with
  | nil => exact Nat.le_refl _
  | cons a l ih =>
    rw [sumF_cons, sumF_cons]
    have := ih fun x hx => h x (List.mem_cons_of_mem _ hx)
    have := h a (List.mem_cons_self ..)
    omega
theorem sumF_bound {f : Nat × Nat → Nat} {l : List (Nat × Nat)} {k : Nat} (h : ∀ x ∈ l, f x ≤ k) : sumF f l ≤ l.length * k := by
  induction l with
  | nil => simp [sumF]
  | cons a l ih =>
    rw [sumF_cons, List.length_cons, Nat.succ_mul]
    have := ih fun x hx => h x (List.mem_cons_of_mem _ hx)
    have := h a (List.mem_cons_self ..)
    omega
theorem mem_split {x : Nat × Nat} {v : List (Nat × Nat)} (h : x ∈ v) : ∃ v', v.Perm (x :: v') ∧ (v.Nodup → v'.Nodup ∧ x ∉ v') := by
  obtain ⟨a, b, rfl⟩ := List.append_of_mem h
  refine ⟨a ++ b, List.perm_middle, fun hn => ?_⟩
  have := (List.perm_middle (a := x) (l₁ := a) (l₂ := b)).nodup_iff.1 hn
  rw [List.nodup_cons] at this
  exact ⟨this.2, this.1⟩
/-- A lesser set, lesser numbers: a lesser sum. -/
theorem sum_mono {f g : Nat × Nat → Nat} : ∀ {u v : List (Nat × Nat)}, u.Nodup → (∀ x ∈ u, x ∈ v) → (∀ x ∈ u, f x ≤ g x) → sumF f u ≤ sumF g v
  | [], v, _, _, _ => by rw [sumF_nil]; exact Nat.zero_le _
  | x :: u, v, hn, hs, hf => by
    obtain ⟨v', hp, _⟩ := mem_split (hs x (List.mem_cons_self ..))
    rw [List.nodup_cons] at hn
    rw [sumF_perm hp, sumF_cons, sumF_cons]
    have := sum_mono (v := v') hn.2 (fun y hy => by
      rcases List.mem_cons.1 (hp.mem_iff.1 (hs y (List.mem_cons_of_mem _ hy))) with e | e
      · subst e; exact absurd hy hn.1
      · exact e) (fun y hy => hf y (List.mem_cons_of_mem _ hy))
    have := hf x (List.mem_cons_self ..)
    omega
theorem sum_strict {f g : Nat × Nat → Nat} {u v : List (Nat × Nat)} (hu : u.Nodup) (hs : ∀ x ∈ u, x ∈ v) (hf : ∀ x ∈ u, f x ≤ g x) {x : Nat × Nat} (hx : x ∈ v) (h1 : x ∈ u → f x < g x) (h0 : 0 < g x) : sumF f u < sumF g v := by
  obtain ⟨v', hp, _⟩ := mem_split hx
  rw [sumF_perm hp, sumF_cons]
  by_cases hxu : x ∈ u
  · obtain ⟨u', hq, hn⟩ := mem_split hxu
    obtain ⟨hn1, hn2⟩ := hn hu
    rw [sumF_perm hq, sumF_cons]
    have hm : ∀ y ∈ u', y ∈ u := fun y hy => hq.mem_iff.2 (List.mem_cons_of_mem _ hy)
    have := sum_mono (f := f) (g := g) (v := v') hn1 (fun y hy => by
      rcases List.mem_cons.1 (hp.mem_iff.1 (hs y (hm y hy))) with e | e
      · subst e; exact absurd hy hn2
      · exact e) (fun y hy => hf y (hm y hy))
    have := h1 hxu
    omega
  · have := sum_mono (f := f) (g := g) (v := v') hu (fun y hy => by
      rcases List.mem_cons.1 (hp.mem_iff.1 (hs y hy)) with e | e
      · subst e; exact absurd hy hxu
      · exact e) hf
    omega

/-- The unlike members, each where it is first. -/
def uq (l : List (Nat × Nat)) : List (Nat × Nat) := l.foldl (fun acc a => if a ∈ acc then acc else acc ++ [a]) []
theorem uq_app (l : List (Nat × Nat)) (a : Nat × Nat) : uq (l ++ [a]) = if a ∈ uq l then uq l else uq l ++ [a] := by unfold uq; rw [List.foldl_append]; rfl
theorem rev_indP {P : List (Nat × Nat) → Prop} (h0 : P []) (hs : ∀ u s, P u → P (u ++ [s])) (u : List (Nat × Nat)) : P u := by
  have : ∀ v : List (Nat × Nat), P v.reverse := fun v => by
    induction v with
    | nil => exact h0
    | cons a v ih => rw [List.reverse_cons]; exact hs _ _ ih
  have := this u.reverse
  rwa [List.reverse_reverse] at this
theorem mem_uq (l : List (Nat × Nat)) : ∀ x, x ∈ uq l ↔ x ∈ l := by
  refine rev_indP (P := fun l => ∀ x, x ∈ uq l ↔ x ∈ l) (by simp [uq]) (fun l a ih x => ?_) l
  rw [uq_app]
  by_cases h : a ∈ uq l
  · rw [if_pos h, ih, List.mem_append, List.mem_singleton]
    exact ⟨.inl, fun g => g.elim id fun e => by rw [e]; exact (ih a).1 h⟩
  · rw [if_neg h, List.mem_append, List.mem_append, ih]
theorem nodup_uq (l : List (Nat × Nat)) : (uq l).Nodup := by
  refine rev_indP (P := fun l => (uq l).Nodup) (by simp [uq]) (fun l a ih => ?_) l
  rw [uq_app]
  by_cases h : a ∈ uq l
  · rw [if_pos h]; exact ih
  · rw [if_neg h, List.nodup_append]
    exact ⟨ih, by simp, fun x hx y hy e => by rw [List.mem_singleton] at hy; subst hy; subst e; exact h hx⟩
theorem uq_app_sum (f : Nat × Nat → Nat) (l : List (Nat × Nat)) (a : Nat × Nat) : sumF f (uq (l ++ [a])) = sumF f (uq l) + if a ∈ l then 0 else f a := by
  rw [uq_app]
  by_cases h : a ∈ l
  · rw [if_pos ((mem_uq l a).2 h), if_pos h]; omega
  · rw [if_neg fun g => h ((mem_uq l a).1 g), if_neg h, sumF_app]; simp [sumF]
theorem uq_sum {f : Nat × Nat → Nat} {u l : List (Nat × Nat)} (hu : u.Nodup) (hm : ∀ x, x ∈ u ↔ x ∈ l) : sumF f u = sumF f (uq l) :=
  Nat.le_antisymm (sum_mono hu (fun x hx => (mem_uq l x).2 ((hm x).1 hx)) fun _ _ => Nat.le_refl _)
    (sum_mono (nodup_uq l) (fun x hx => (hm x).2 ((mem_uq l x).1 hx)) fun _ _ => Nat.le_refl _)
theorem uq_len (l : List (Nat × Nat)) : (uq l).length ≤ l.length := by
  refine rev_indP (P := fun l => (uq l).length ≤ l.length) (by simp [uq]) (fun l a ih => ?_) l
  rw [uq_app]
  by_cases h : a ∈ uq l
  · rw [if_pos h]; simp; omega
  · rw [if_neg h]; simp; omega

variable (W : Nat × Nat → Nat × Nat → Bool)
/-- Of each unlike member, how many hold it. -/
def hel (l : List (Nat × Nat)) : Nat := sumF (fun p => l.countP (W p)) (uq l)
variable {W}
theorem hel_of {u l : List (Nat × Nat)} (hu : u.Nodup) (hm : ∀ x, x ∈ u ↔ x ∈ l) : sumF (fun p => l.countP (W p)) u = hel W l := uq_sum hu hm
theorem hel_mono {l m : List (Nat × Nat)} (h : l.Sublist m) : hel W l ≤ hel W m :=
  sum_mono (nodup_uq l) (fun x hx => (mem_uq m x).2 (h.subset ((mem_uq l x).1 hx))) fun x _ => h.countP_le
theorem hel_strict {l m : List (Nat × Nat)} (h : l.Sublist m) {x : Nat × Nat} (hx : x ∈ m) (hc : l.countP (W x) < m.countP (W x)) : hel W l < hel W m :=
  sum_strict (nodup_uq l) (fun x hx => (mem_uq m x).2 (h.subset ((mem_uq l x).1 hx))) (fun x _ => h.countP_le) ((mem_uq m x).2 hx) (fun _ => hc) (by omega)
theorem hel_perm {l m : List (Nat × Nat)} (h : l.Perm m) : hel W l = hel W m := by
  unfold hel
  rw [uq_sum (nodup_uq l) (fun x => (mem_uq l x).trans h.mem_iff)]
  exact sumF_congr fun x _ => h.countP_eq _
theorem hel_len_aux : ∀ (l u : List (Nat × Nat)), (∀ x ∈ l, x ∈ u ∧ W x x = true) → l.length ≤ sumF (fun p => l.countP (W p)) u
  | [], u, _ => Nat.zero_le _
  | a :: l, u, h => by
    have ih := hel_len_aux l u fun x hx => h x (List.mem_cons_of_mem _ hx)
    obtain ⟨h1, h2⟩ := h a (List.mem_cons_self ..)
    obtain ⟨u', hp, _⟩ := mem_split h1
    rw [sumF_perm hp, sumF_cons] at ih ⊢
    have e : (a :: l).countP (W a) = l.countP (W a) + 1 := by rw [List.countP_cons, if_pos h2]
    have := sumF_le (f := fun p => l.countP (W p)) (g := fun p => (a :: l).countP (W p)) (l := u') fun x _ => by rw [List.countP_cons]; omega
    rw [List.length_cons, e]
    omega
theorem hel_len {l : List (Nat × Nat)} (h : ∀ x ∈ l, W x x = true) : l.length ≤ hel W l := hel_len_aux l (uq l) fun x hx => ⟨(mem_uq l x).2 hx, h x hx⟩
theorem hel_le (l : List (Nat × Nat)) : hel W l ≤ l.length * l.length :=
  Nat.le_trans (sumF_bound fun x _ => List.countP_le_length) (Nat.mul_le_mul_right _ (uq_len l))

/-! Pairs: a source, a target. -/
variable (W)
def tgs (l : List ((Nat × Nat) × (Nat × Nat))) (s : Nat × Nat) : List (Nat × Nat) := (l.filter fun r => W s r.1).map (·.2)
def grdN (l : List ((Nat × Nat) × (Nat × Nat))) : Nat := hel W (l.map (·.1))
def prnN (l : List ((Nat × Nat) × (Nat × Nat))) : Nat := sumF (fun s => hel W (tgs W l s)) (uq (l.map (·.1)))
variable {W}
theorem tgs_len (l : List ((Nat × Nat) × (Nat × Nat))) (s : Nat × Nat) : (tgs W l s).length = (l.map (·.1)).countP (W s) := by
  unfold tgs
  rw [List.length_map, List.countP_map, List.countP_eq_length_filter]; rfl
theorem tgs_mono {l m : List ((Nat × Nat) × (Nat × Nat))} (h : l.Sublist m) (s : Nat × Nat) : (tgs W l s).Sublist (tgs W m s) := (h.filter _).map _
theorem prn_of {u : List (Nat × Nat)} {l : List ((Nat × Nat) × (Nat × Nat))} (hu : u.Nodup) (hm : ∀ x, x ∈ u ↔ x ∈ l.map (·.1)) : sumF (fun s => hel W (tgs W l s)) u = prnN W l := uq_sum hu hm
theorem grd_less (a b : List ((Nat × Nat) × (Nat × Nat))) (r : (Nat × Nat) × (Nat × Nat)) (h1 : W r.1 r.1 = true) : grdN W (a ++ b) < grdN W (a ++ r :: b) := by
  unfold grdN
  refine hel_strict (x := r.1) ((List.Sublist.append_left (List.sublist_cons_self r b) a).map _) (by simp) ?_
  simp only [List.map_append, List.map_cons, List.countP_append, List.countP_cons, h1, if_true]
  omega
theorem prn_less (a b : List ((Nat × Nat) × (Nat × Nat))) (r : (Nat × Nat) × (Nat × Nat)) (h1 : W r.1 r.1 = true) (h2 : W r.2 r.2 = true) : prnN W (a ++ b) < prnN W (a ++ r :: b) := by
  have hs : (a ++ b).Sublist (a ++ r :: b) := List.Sublist.append_left (List.sublist_cons_self r b) a
  have ht : hel W (tgs W (a ++ b) r.1) < hel W (tgs W (a ++ r :: b) r.1) := by
    refine hel_strict (x := r.2) (tgs_mono hs _) ?_ ?_
    · unfold tgs; simp [h1]
    · unfold tgs
      simp only [List.filter_append, List.filter_cons, h1, if_true, List.map_append, List.map_cons, List.countP_append, List.countP_cons, h2]
      omega
  exact sum_strict (nodup_uq _) (fun x hx => (mem_uq _ x).2 ((hs.map _).subset ((mem_uq _ x).1 hx))) (fun x _ => hel_mono (tgs_mono hs x)) ((mem_uq _ r.1).2 (by simp)) (fun _ => ht) (by omega)
theorem grd_perm {l m : List ((Nat × Nat) × (Nat × Nat))} (h : l.Perm m) : grdN W l = grdN W m := hel_perm (h.map _)
theorem prn_perm {l m : List ((Nat × Nat) × (Nat × Nat))} (h : l.Perm m) : prnN W l = prnN W m := by
  unfold prnN
  rw [uq_sum (nodup_uq (l.map (·.1))) (fun x => (mem_uq _ x).trans (h.map _).mem_iff)]
  exact sumF_congr fun s _ => hel_perm ((h.filter _).map _)
theorem grd_len {l : List ((Nat × Nat) × (Nat × Nat))} (h : ∀ r ∈ l, W r.1 r.1 = true) : l.length ≤ grdN W l := by
  have := hel_len (W := W) (l := l.map (·.1)) (by simpa using h)
  simpa [grdN] using this
theorem prn_grd {l : List ((Nat × Nat) × (Nat × Nat))} (h : ∀ r ∈ l, W r.2 r.2 = true) : grdN W l ≤ prnN W l := by
  unfold grdN prnN hel
  refine sumF_le fun s hs => ?_
  rw [← tgs_len]
  refine hel_len fun x hx => ?_
  unfold tgs at hx
  obtain ⟨r, hr, rfl⟩ := List.mem_map.1 hx
  exact h r (List.mem_filter.1 hr).1
theorem prn_le {l : List ((Nat × Nat) × (Nat × Nat))} : prnN W l ≤ l.length * (l.length * l.length) := by
  have h1 : (uq (l.map (·.1))).length ≤ l.length := by have := uq_len (l.map (·.1)); simpa using this
  refine Nat.le_trans (sumF_bound (k := l.length * l.length) fun s _ => Nat.le_trans (hel_le _) ?_) (Nat.mul_le_mul_right _ h1)
  have : (tgs W l s).length ≤ l.length := by unfold tgs; rw [List.length_map]; exact List.length_filter_le _ _
  exact Nat.mul_le_mul this this
end Go.Proofs.YtgidohnikggjfaaGreat
