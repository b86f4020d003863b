/-
  What follows of the list: put and cut again, all cut.
-/
import Derived.Test.YtfbkjghipahipaaTrR
namespace Go.Proofs.Ytfbkjghipahipaa
open Go.RowKit
set_option linter.unusedVariables false
set_option linter.unusedSimpArgs false

theorem cnt_keys (W d : Nat) : ∀ {l m : List En} (p q : Option En), (∀ e j, knw W p e j = knw W q e j) → l.map (fun e => (e.k, e.n)) = m.map (fun e => (e.k, e.n)) → cntL W d p l = cntL W d q m
  | [], [], _, _, _, _ => rfl
  | [], _ :: _, _, _, _, h => by simp at h
  | _ :: _, [], _, _, _, h => by simp at h
  | x :: l, y :: m, p, q, hk, h => by
    simp only [List.map_cons, List.cons.injEq, Prod.mk.injEq] at h
    obtain ⟨⟨h1, h2⟩, h3⟩ := h
    simp only [cntL]
    have e1 : ∀ r j, knw W r x j = knw W r y j := fun r j => by unfold knw; cases r <;> simp [h1]
    have e2 : newN W d p x = newN W d q y := by unfold newN; rw [h2]; exact cq_congr (fun j _ _ => by rw [e1, hk])
    have e3 : ∀ e j, knw W (some x) e j = knw W (some y) e j := fun e j => by unfold knw; simp [h1, h2]
    rw [e2, cnt_keys W d (some x) (some y) e3 h3]
theorem set_keys {L : List En} {i : Nat} {x : En} (hi : i < L.length) (hk : (L[i]'hi).k = x.k) (hn : (L[i]'hi).n = x.n) : (L.set i x).map (fun e => (e.k, e.n)) = L.map (fun e => (e.k, e.n)) := by
  rw [List.map_set]
  refine List.ext_getElem (by simp) (fun j h1 h2 => ?_)
  rw [List.getElem_set]
  split
  · rename_i e; subst e; simp [hk, hn]
  · rfl
variable {w : World} {t : Nat} {v : Value} {W M : Nat} {L : List En} {ar : Nat}
theorem Tr.srt (h : Tr w t v W M L ar) : srt L := by obtain ⟨A, r, f, c, h1, h2, h3⟩ := h; exact h2.srt
theorem Tr.may (h : Tr w t v W M L ar) {e : En} (he : e ∈ L) : May W e.k e.n := by obtain ⟨A, r, f, c, h1, h2, h3⟩ := h; exact h2.may he
theorem Tr.cntA (h : Tr w t v W M L ar) : cntL W 0 none L ≤ ar ∧ cntL W 0 none L ≤ M ∧ ar ≤ M := by
  obtain ⟨A, r, f, c, h1, h2, rfl⟩ := h
  rw [← h2.cnt]
  obtain ⟨F, _, hF⟩ := h2.fr
  exact ⟨by rw [h2.cn]; omega, h2.le, h2.la⟩
theorem Tr.cntP (h : Tr w t v W M L ar) {x : En} (m : May W x.k x.n) : cntL W 0 none L ≤ cntL W 0 none (putL L x) ∧ cntL W 0 none (putL L x) ≤ cntL W 0 none L + x.n + 1 := by
  obtain ⟨A, r, f, c, h1, h2, rfl⟩ := h
  obtain ⟨g1, g2, _⟩ := h2.grow m
  have := pth_le A x.n W r x.k 0
  rw [← h2.cnt, ← g2]
  omega
/-- A key that is held: another value, the same nodes. -/
theorem put_had {L : List En} (hs : srt L) {x : En} {u : Int} (h : val L x.k x.n = some u) (W : Nat) : cntL W 0 none (putL L x) = cntL W 0 none L := by
  rw [val_idx] at h
  split at h
  · rename_i hi
    unfold putL
    rw [if_pos hi]
    obtain ⟨a, b⟩ := idx_at hi
    exact cnt_keys W 0 none none (fun _ _ => rfl) (set_keys hi a b)
  · cases h
/-- A key that is not held, put and cut again. -/
theorem put_cut {L : List En} (hs : srt L) {x : En} (h : val L x.k x.n = none) : (val (putL L x) x.k x.n).isSome = true ∧ cutL (putL L x) x.k x.n = L := by
  obtain ⟨s1, m1⟩ := put_ok hs x
  have hv : val (putL L x) x.k x.n = some x.v := (val_mem s1).2 ((m1 _).2 (.inl rfl))
  have hno := (val_none hs).1 h
  have hi : idx (putL L x) x.k x.n < (putL L x).length := by
    rw [val_idx] at hv
    split at hv
    · assumption
    · cases hv
  obtain ⟨s2, m2⟩ := cut_ok s1 x.k x.n hi
  refine ⟨by rw [hv]; rfl, srt_ext s2 hs (fun e => ?_)⟩
  rw [m2, m1]
  constructor
  · rintro ⟨rfl | ⟨h1, h2⟩, h3⟩
    · exact absurd ⟨rfl, rfl⟩ h3
    · exact h1
  · intro he
    have : ¬ (e.k = x.k ∧ e.n = x.n) := fun ⟨a, b⟩ => hno e.v (by rw [← a, ← b]; exact he)
    exact ⟨.inr ⟨he, this⟩, this⟩
/-- The first one, cut. -/
theorem cut_head {L : List En} {e : En} (W : Nat) (m : May W e.k e.n) : cutE W (e :: L) e.k e.n = 0 ∧ cutM W (e :: L) e.k e.n = L := by
  have hm : mayB W e.k (e.n : Int) = true := mayB_iff.2 ⟨e.n, rfl, m⟩
  have hv : (val (e :: L) e.k e.n).isSome = true := by unfold val; simp
  have h1 : cutE W (e :: L) e.k e.n = 0 := by unfold cutE; rw [if_pos hm, Int.toNat_natCast, if_pos hv]
  refine ⟨h1, ?_⟩
  unfold cutM
  rw [if_pos h1, Int.toNat_natCast]
  unfold cutL
  have : idx (e :: L) e.k e.n = 0 := by unfold idx; simp [List.findIdx_cons, same]
  rw [this]
  rfl
end Go.Proofs.Ytfbkjghipahipaa
