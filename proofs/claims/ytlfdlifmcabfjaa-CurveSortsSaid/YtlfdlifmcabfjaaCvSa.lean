/-
  A stable sort of places, as plain mathematics: places are numbers, and of two with the same key the lesser comes first. No program is named here.
-/
import Derived.Sort.Row
namespace Go.Proofs.Ytlfdlifmcabfjaa
open Go.Sort
set_option linter.unusedVariables false
set_option linter.unusedSimpArgs false

/-- x comes ahead of y: by the key, and of alike ones the lesser number. -/
def Bf (key : Int → Int) (x y : Int) : Prop := key x < key y ∨ (key x = key y ∧ x < y)
theorem bf_trans {key : Int → Int} {x y z : Int} (h : Bf key x y) (g : Bf key y z) : Bf key x z := by unfold Bf at *; omega
theorem bf_irr {key : Int → Int} {x : Int} (h : Bf key x x) : False := by unfold Bf at h; omega
theorem bf_tot {key : Int → Int} {x y : Int} (h : ¬ Bf key x y) (hn : x ≠ y) : Bf key y x := by unfold Bf at *; omega
/-- Of a later place against an earlier one the key alone decides. -/
theorem bf_key {key : Int → Int} {x y : Int} (h : x < y) : Bf key y x ↔ key y < key x := by unfold Bf; omega
theorem bf_key' {key : Int → Int} {x y : Int} (h : x < y) : Bf key x y ↔ ¬ key y < key x := by unfold Bf; omega

/-- Rising from a to b. -/
def So (key : Int → Int) (d : Array Int) (a b : Nat) : Prop := ∀ i j, a ≤ i → i < j → j < b → Bf key d[i]! d[j]!
/-- The same numbers from a to b, and all else as it was. -/
def Sm (a b : Nat) (d e : Array Int) : Prop := e.size = d.size ∧ (∀ k, k < a ∨ b ≤ k → e[k]! = d[k]!) ∧ (∀ i, a ≤ i → i < b → ∃ j, a ≤ j ∧ j < b ∧ e[i]! = d[j]!) ∧ ∀ i, a ≤ i → i < b → ∃ j, a ≤ j ∧ j < b ∧ d[i]! = e[j]!
theorem sm_refl (a b : Nat) (d : Array Int) : Sm a b d d := ⟨rfl, fun _ _ => rfl, fun i h1 h2 => ⟨i, h1, h2, rfl⟩, fun i h1 h2 => ⟨i, h1, h2, rfl⟩⟩
theorem sm_trans {a b : Nat} {d e f : Array Int} (h : Sm a b d e) (g : Sm a b e f) : Sm a b d f :=
  ⟨g.1.trans h.1, fun k hk => (g.2.1 k hk).trans (h.2.1 k hk), fun i h1 h2 => by
    obtain ⟨j, j1, j2, j3⟩ := g.2.2.1 i h1 h2
    obtain ⟨k, k1, k2, k3⟩ := h.2.2.1 j j1 j2
    exact ⟨k, k1, k2, j3.trans k3⟩, fun i h1 h2 => by
    obtain ⟨j, j1, j2, j3⟩ := h.2.2.2 i h1 h2
    obtain ⟨k, k1, k2, k3⟩ := g.2.2.2 j j1 j2
    exact ⟨k, k1, k2, j3.trans k3⟩⟩
theorem sm_mono {a b a' b' : Nat} {d e : Array Int} (h : Sm a b d e) (ha : a' ≤ a) (hb : b ≤ b') : Sm a' b' d e :=
  ⟨h.1, fun k hk => h.2.1 k (by omega), fun i h1 h2 => by
    by_cases q : a ≤ i ∧ i < b
    · obtain ⟨j, j1, j2, j3⟩ := h.2.2.1 i q.1 q.2
      exact ⟨j, by omega, by omega, j3⟩
    · exact ⟨i, h1, h2, h.2.1 i (by omega)⟩, fun i h1 h2 => by
    by_cases q : a ≤ i ∧ i < b
    · obtain ⟨j, j1, j2, j3⟩ := h.2.2.2 i q.1 q.2
      exact ⟨j, by omega, by omega, j3⟩
    · exact ⟨i, h1, h2, (h.2.1 i (by omega)).symm⟩⟩
/-- Places taken from elsewhere: e at k is d at f k. -/
def Via (f : Nat → Nat) (d e : Array Int) : Prop := e.size = d.size ∧ ∀ k, k < d.size → e[k]! = d[f k]!
theorem via_sm {f g : Nat → Nat} {a b : Nat} {d e : Array Int} (h : Via f d e) (hb : b ≤ d.size) (h1 : ∀ k, k < a ∨ b ≤ k → f k = k) (h2 : ∀ k, a ≤ k → k < b → a ≤ f k ∧ f k < b) (h3 : ∀ k, a ≤ k → k < b → a ≤ g k ∧ g k < b ∧ f (g k) = k) : Sm a b d e :=
  ⟨h.1, fun k hk => by
    by_cases q : k < d.size
    · rw [h.2 k q, h1 k hk]
    · rw [getElem!_neg e k (by rw [h.1]; exact q), getElem!_neg d k q], fun i i1 i2 => ⟨f i, (h2 i i1 i2).1, (h2 i i1 i2).2, h.2 i (by omega)⟩,
    fun i i1 i2 => ⟨g i, (h3 i i1 i2).1, (h3 i i1 i2).2.1, by rw [h.2 (g i) (by have := (h3 i i1 i2).2.1; omega), (h3 i i1 i2).2.2]⟩⟩
/-- Two rows of n places change their places. -/
def srF (a b n k : Nat) : Nat := if a ≤ k ∧ k < a + n then k - a + b else if b ≤ k ∧ k < b + n then k - b + a else k
theorem sr_zero (a b : Nat) (d : Array Int) : Via (srF a b 0) d d := ⟨rfl, fun k _ => by unfold srF; rw [if_neg (by omega), if_neg (by omega)]⟩
theorem sr_step {a b n : Nat} {d e : Array Int} (h : Via (srF a b n) d e) (hd : a + n + 1 ≤ b) (hb : b + n + 1 ≤ d.size) : Via (srF a b (n + 1)) d (swp e (a + n) (b + n)) := by
  refine ⟨by rw [size_swp]; exact h.1, fun k hk => ?_⟩
  by_cases k1 : k = a + n
  · subst k1
    rw [swp_left _ _ _ (by rw [h.1]; omega) (by omega), h.2 _ (by omega)]
    congr 1
    unfold srF
    rw [if_neg (by omega), if_neg (by omega), if_pos (by omega)]; omega
  · by_cases k2 : k = b + n
    · subst k2
      rw [swp_right _ _ _ (by rw [h.1]; omega), h.2 _ (by omega)]
      congr 1
      unfold srF
      rw [if_neg (by omega), if_neg (by omega), if_neg (by omega), if_pos (by omega)]; omega
    · rw [swp_other _ _ _ _ k1 k2, h.2 k hk]
      congr 1
      unfold srF; repeat' split
      all_goals omega
/-- Two rows, one behind the other, change their places: from a to m, from m to b. -/
def rtF (a m b k : Nat) : Nat := if k < a then k else if k < a + (b - m) then k - a + m else if k < b then k - (b - m) else k
theorem rt_end {m i : Nat} {d e : Array Int} (h : Via (srF (m - i) m i) d e) (hi : i ≤ m) : Via (rtF (m - i) m (m + i)) d e := by
  refine ⟨h.1, fun k hk => ?_⟩
  rw [h.2 k hk]
  congr 1
  unfold srF rtF
  repeat' split
  all_goals omega
theorem rt_left {m i j : Nat} {d e f : Array Int} (h : Via (srF (m - i) m j) d e) (hi : i ≤ m) (hj : j < i) (hs : m + j ≤ d.size) (g : Via (rtF (m - (i - j)) m (m + j)) e f) : Via (rtF (m - i) m (m + j)) d f := by
  refine ⟨g.1.trans h.1, fun k hk => ?_⟩
  rw [g.2 k (by rw [h.1]; exact hk), h.2]
  · congr 1
    unfold srF rtF
    repeat' split
    all_goals omega
  · unfold rtF
    repeat' split
    all_goals omega
theorem rt_right {m i j : Nat} {d e f : Array Int} (h : Via (srF (m - i) (m + j - i) i) d e) (hi : i ≤ m) (hj : i < j) (hs : m + j ≤ d.size) (g : Via (rtF (m - i) m (m + (j - i))) e f) : Via (rtF (m - i) m (m + j)) d f := by
  refine ⟨g.1.trans h.1, fun k hk => ?_⟩
  rw [g.2 k (by rw [h.1]; exact hk), h.2]
  · congr 1
    unfold srF rtF
    repeat' split
    all_goals omega
  · unfold rtF
    repeat' split
    all_goals omega
theorem rt_sm {a m b : Nat} {d e : Array Int} (h : Via (rtF a m b) d e) (h1 : a ≤ m) (h2 : m ≤ b) (hb : b ≤ d.size) : Sm a b d e := by
  refine via_sm (g := rtF a (a + (b - m)) b) h hb (fun k hk => ?_) (fun k k1 k2 => ?_) (fun k k1 k2 => ?_)
  · unfold rtF; repeat' split
    all_goals omega
  · unfold rtF; repeat' split
    all_goals omega
  · unfold rtF; repeat' split
    all_goals omega
/-- One place goes up to i - 1, those between one down. -/
def upF (a k' k : Nat) : Nat := if a ≤ k ∧ k < k' then k + 1 else if k = k' then a else k
theorem up_step {a k : Nat} {d e : Array Int} (h : Via (upF a k) d e) (hk : a ≤ k) (hs : k + 1 < d.size) : Via (upF a (k + 1)) d (swp e k (k + 1)) := by
  refine ⟨by rw [size_swp]; exact h.1, fun t ht => ?_⟩
  by_cases k1 : t = k
  · subst k1
    rw [swp_left _ _ _ (by rw [h.1]; omega) (by omega), h.2 _ (by omega)]
    congr 1; unfold upF; repeat' split
    all_goals omega
  · by_cases k2 : t = k + 1
    · subst k2
      rw [swp_right _ _ _ (by rw [h.1]; omega), h.2 _ (by omega)]
      congr 1; unfold upF; repeat' split
      all_goals omega
    · rw [swp_other _ _ _ _ k1 k2, h.2 t ht]
      congr 1; unfold upF; repeat' split
      all_goals omega
theorem up_zero (a : Nat) (d : Array Int) : Via (upF a a) d d := ⟨rfl, fun k _ => by
  congr 1
  unfold upF
  rw [if_neg (by omega)]
  split <;> omega⟩
/-- The place m goes down to k', those between one up. -/
def dnF (m k' k : Nat) : Nat := if k' < k ∧ k ≤ m then k - 1 else if k = k' then m else k
theorem dn_zero (m : Nat) (d : Array Int) : Via (dnF m m) d d := ⟨rfl, fun k _ => by
  congr 1
  unfold dnF
  rw [if_neg (by omega)]
  split <;> omega⟩
theorem dn_step {m k : Nat} {d e : Array Int} (h : Via (dnF m (k + 1)) d e) (hk : k + 1 ≤ m) (hs : m < d.size) : Via (dnF m k) d (swp e (k + 1) k) := by
  refine ⟨by rw [size_swp]; exact h.1, fun t ht => ?_⟩
  by_cases k1 : t = k + 1
  · subst k1
    rw [swp_left _ _ _ (by rw [h.1]; omega) (by omega), h.2 _ (by omega)]
    congr 1; unfold dnF; repeat' split
    all_goals omega
  · by_cases k2 : t = k
    · subst k2
      rw [swp_right _ _ _ (by rw [h.1]; omega), h.2 _ (by omega)]
      congr 1; unfold dnF; repeat' split
      all_goals omega
    · rw [swp_other _ _ _ _ k1 k2, h.2 t ht]
      congr 1; unfold dnF; repeat' split
      all_goals omega
theorem up_sm {a k b : Nat} {d e : Array Int} (h : Via (upF a k) d e) (h1 : a ≤ k) (h2 : k < b) (hb : b ≤ d.size) : Sm a b d e := by
  refine via_sm (g := fun t => if a < t ∧ t ≤ k then t - 1 else if t = a then k else t) h hb (fun t ht => ?_) (fun t t1 t2 => ?_) (fun t t1 t2 => ?_)
  · unfold upF; repeat' split
    all_goals omega
  · unfold upF; repeat' split
    all_goals omega
  · unfold upF
    by_cases q : a < t ∧ t ≤ k
    · rw [if_pos q, if_pos (by omega)]; omega
    · rw [if_neg q]
      by_cases q2 : t = a
      · rw [if_pos q2]; repeat' split
        all_goals omega
      · rw [if_neg q2]; repeat' split
        all_goals omega
theorem dn_sm {m k a b : Nat} {d e : Array Int} (h : Via (dnF m k) d e) (h0 : a ≤ k) (h1 : k ≤ m) (h2 : m < b) (hb : b ≤ d.size) : Sm a b d e := by
  refine via_sm (g := fun t => if k ≤ t ∧ t < m then t + 1 else if t = m then k else t) h hb (fun t ht => ?_) (fun t t1 t2 => ?_) (fun t t1 t2 => ?_)
  · unfold dnF; repeat' split
    all_goals omega
  · unfold dnF; repeat' split
    all_goals omega
  · unfold dnF
    by_cases q : k ≤ t ∧ t < m
    · rw [if_pos q, if_pos (by omega)]; omega
    · rw [if_neg q]
      by_cases q2 : t = m
      · rw [if_pos q2]; repeat' split
        all_goals omega
      · rw [if_neg q2]; repeat' split
        all_goals omega
end Go.Proofs.Ytlfdlifmcabfjaa
