/-
  The prefixes above a prefix, in their order: what comes next. Plain arithmetic, over the lists of the iterator's contract.
-/
import Derived.Test.YthmekipdhlipbaaPxAbove
import Derived.Test.YthmekipdhlipbaaPxPlD2
namespace Go.Proofs.Ythmekipdhlipbaa
open Go.RowKit
set_option linter.unusedVariables false
set_option linter.unusedSimpArgs false

theorem desc_drop (a : Nat) : ∀ j k, (desc a j).drop k = desc a (j - k)
  | 0, k => by simp [desc]
  | j + 1, 0 => rfl
  | j + 1, k + 1 => by rw [desc, List.drop_succ_cons, desc_drop a j k, Nat.add_sub_add_right]
theorem desc_next (a n : Nat) {pre : List Pxx} {x : Pxx} (hp : pre <+: desc a (n + 1)) : pre ++ [x] <+: desc a (n + 1) ↔ pre.length ≤ n ∧ x = cutP a (n - pre.length) := by
  obtain ⟨t, ht⟩ := hp
  have e : t = desc a (n + 1 - pre.length) := by rw [← desc_drop, ← ht]; simp
  rw [← ht, List.prefix_append_right_inj, e]
  rcases Nat.lt_or_ge n pre.length with h | h
  · rw [show n + 1 - pre.length = 0 by omega]
    constructor
    · intro h2; simp [desc] at h2
    · intro h2; omega
  · rw [show n + 1 - pre.length = (n - pre.length) + 1 by omega]
    simp only [desc, List.cons_prefix_cons, List.nil_prefix, and_true, h, true_and]
/-- How long what came last is. -/
def lj (n k : Nat) : Nat := min n (n + 1 - k)
theorem lj_le (n k : Nat) : lj n k ≤ n := Nat.min_le_left _ _
theorem lj_next (n k : Nat) (h : k ≤ n) : lj n (k + 1) = n - k := by unfold lj; omega
theorem fit_iff (a n k pa pn : Nat) (ha : a < 4294967296) (hn : n ≤ 32) (hk : k ≤ n) (hpa : pa < 4294967296) (hpn : pn ≤ 32) :
    (witB (ct a (lj n k)) (lj n k : Int) pa (pn : Int) = true ∧ (pn : Int) = (n : Int) - (k : Int)) ↔ pa = ct a (n - k) ∧ pn = n - k := by
  have hl := lj_le n k
  have hle : n - k ≤ lj n k := by unfold lj; omega
  constructor
  · rintro ⟨h1, h2⟩
    have e : pn = n - k := by omega
    refine ⟨?_, e⟩
    have h3 : chk pa (pn : Int) = 0 := by
      unfold witB at h1
      have := (of_decide_eq_true h1).2.2
      unfold hasB at this
      exact (of_decide_eq_true this).1
    obtain ⟨m, em, hm, hm0⟩ := chk_ok h3
    have em' : m = pn := by omega
    subst em'
    have := (wit_iff _ _ _ _ (by omega) hpn (ct_mod a (lj n k)) hm0).1 h1
    rw [ct_ct a m (lj n k) (by omega)] at this
    rw [← e]; exact this.2.symm
  · rintro ⟨rfl, rfl⟩
    refine ⟨(wit_iff _ _ _ _ (by omega) hpn (ct_mod a (lj n k)) (ct_mod a (n - k))).2 ⟨hle, ?_⟩, by omega⟩
    exact ct_ct a (n - k) (lj n k) hle
theorem cutP_eq (a m pa pn : Nat) (ha : a < 4294967296) (hm : m ≤ 32) (hp : pa < 4294967296 ∧ pn ≤ 32) : (⟨(pa, pn), hp⟩ : Pxx) = cutP a m ↔ pa = ct a m ∧ pn = m := by
  have e1 := cutP_fst a m ha
  have e2 := cutP_snd a m hm
  constructor
  · intro h; rw [← h] at e1 e2; exact ⟨e1, e2⟩
  · rintro ⟨rfl, rfl⟩
    apply Subtype.ext
    exact Prod.ext e1.symm e2.symm
/-- What comes next, as the round asks for it. -/
theorem next_iff (a n : Nat) (ha : a < 4294967296) (hn : n ≤ 32) {pre : List Pxx} (hp : pre <+: desc a (n + 1)) (hk : pre.length ≤ n) (pa pn : Nat) (hx : pa < 4294967296 ∧ pn ≤ 32) :
    pre ++ [⟨(pa, pn), hx⟩] <+: desc a (n + 1) ↔ (witB (ct a (lj n pre.length)) (lj n pre.length : Int) pa (pn : Int) = true ∧ (pn : Int) = (n : Int) - (pre.length : Int)) := by
  rw [desc_next a n hp, fit_iff a n pre.length pa pn ha hn hk hx.1 hx.2, cutP_eq a (n - pre.length) pa pn ha (by omega) hx]
  exact ⟨fun h => h.2, fun h => ⟨hk, h⟩⟩
end Go.Proofs.Ythmekipdhlipbaa
