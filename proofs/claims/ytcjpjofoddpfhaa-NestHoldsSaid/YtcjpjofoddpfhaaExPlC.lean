/-
  The fewest stems of a span, and of spans apart: by taking the greatest stem that begins where one stands and ends within the span. No program is named here.
-/
import Derived.Test.YtcjpjofoddpfhaaExPlB
import Derived.Test.YtcjpjofoddpfhaaSpPlain
namespace Go.Proofs.Ytcjpjofoddpfhaa.Xp
open Go.RowKit
set_option linter.unusedVariables false

/-- The greatest f up to k, for which 2 ^ f ports from a on are a stem within n ports. -/
def mf (a n : Nat) : Nat → Nat
  | 0 => 0
  | f + 1 => if a % 2 ^ (f + 1) = 0 ∧ 2 ^ (f + 1) ≤ n then f + 1 else mf a n f
theorem mf_is (a n : Nat) (hn : 0 < n) : ∀ k, mf a n k ≤ k ∧ 2 ^ mf a n k ∣ a ∧ 2 ^ mf a n k ≤ n ∧ ∀ g, mf a n k < g → g ≤ k → ¬ (2 ^ g ∣ a ∧ 2 ^ g ≤ n)
  | 0 => ⟨Nat.le_refl _, ⟨a, by show a = 2 ^ 0 * a; rw [Nat.pow_zero, Nat.one_mul]⟩, by show 2 ^ 0 ≤ n; rw [Nat.pow_zero]; omega, fun g h1 h2 => absurd h1 (by omega)⟩
  | k + 1 => by
    obtain ⟨h1, h2, h3, h4⟩ := mf_is a n hn k
    unfold mf
    split
    · rename_i h
      exact ⟨Nat.le_refl _, Nat.dvd_of_mod_eq_zero h.1, h.2, fun g h1 h2 => absurd h1 (by omega)⟩
    · rename_i h
      refine ⟨by omega, h2, h3, fun g g1 g2 => ?_⟩
      by_cases hg : g ≤ k
      · exact h4 g g1 hg
      · obtain rfl : g = k + 1 := by omega
        exact fun hc => h ⟨Nat.mod_eq_zero_of_dvd hc.1, hc.2⟩
/-- The greatest f is the one that is found. -/
theorem mf_uniq {a n f : Nat} (hn : 0 < n) (h1 : f ≤ 16) (h2 : 2 ^ f ∣ a) (h3 : 2 ^ f ≤ n) (h4 : f = 16 ∨ ¬ (2 ^ (f + 1) ∣ a ∧ 2 ^ (f + 1) ≤ n)) : mf a n 16 = f := by
  obtain ⟨m1, m2, m3, m4⟩ := mf_is a n hn 16
  rcases Nat.lt_trichotomy (mf a n 16) f with h | h | h
  · exact absurd ⟨h2, h3⟩ (m4 f h h1)
  · exact h
  · rcases h4 with rfl | h4
    · omega
    · exact absurd ⟨Nat.dvd_trans (pow_dvd_le (by omega)) m2, Nat.le_trans (pow_le (by omega)) m3⟩ h4
/-- The stems of the n ports from a on, at most k of them. -/
def grd : Nat → Nat → Nat → List (Nat × Nat)
  | 0, _, _ => []
  | k + 1, a, n => if n = 0 then [] else (a, 16 - mf a n 16) :: grd k (a + 2 ^ mf a n 16) (n - 2 ^ mf a n 16)
theorem grd_zero (k a : Nat) : grd k a 0 = [] := by cases k <;> rfl
theorem grd_succ (k a n : Nat) (h : 0 < n) : grd (k + 1) a n = (a, 16 - mf a n 16) :: grd k (a + 2 ^ mf a n 16) (n - 2 ^ mf a n 16) := by
  show (if n = 0 then _ else _) = _
  rw [if_neg (by omega)]
theorem isMax_run {p : Nat → Bool} {a n : Nat} (h0 : 0 < n) (hf : full p a n) (he : p (a + n) = false ∨ a + n = 65536) (hb : a + n ≤ 65536) : IsMax p a (mf a n 16) := by
  obtain ⟨h1, h2, h3, h4⟩ := mf_is a n h0 16
  refine ⟨h1, h2, full_le hf h3, ?_⟩
  rintro ⟨g1, g2, g3⟩
  have hx := h4 _ (Nat.lt_succ_self _) (by omega)
  have hlt : n < 2 ^ (mf a n 16 + 1) := by
    apply Nat.lt_of_not_le
    exact fun hc => hx ⟨g2, hc⟩
  rcases he with he | he
  · have := g3 (a + n) (by omega) (by omega)
    rw [he] at this; cases this
  · obtain ⟨c, hc⟩ := g2
    obtain ⟨d, hd⟩ : 2 ^ (mf a n 16 + 1) ∣ 65536 := pow_dvd_le (f := mf a n 16 + 1) (g := 16) (by omega)
    generalize 2 ^ (mf a n 16 + 1) = z at *
    subst hc
    have hcd : c < d := by
      have : z * c < z * d := by omega
      exact Nat.lt_of_mul_lt_mul_left this
    have := Nat.mul_le_mul_left z hcd
    rw [Nat.mul_succ] at this
    omega
theorem tiles_run {p : Nat → Bool} {b : Nat} {l : List (Nat × Nat)} : ∀ (k a n : Nat), n ≤ k → full p a n → (p (a + n) = false ∨ a + n = 65536) → a + n ≤ 65536 → a + n ≤ b → Tiles p (a + n) b l → Tiles p a b (grd k a n ++ l)
  | 0, a, n, hk, _, _, _, _, ht => by
    obtain rfl : n = 0 := by omega
    exact ht
  | k + 1, a, n, hk, hf, he, hb, hbb, ht => by
    by_cases h0 : n = 0
    · subst h0; rw [grd_zero]; exact ht
    · have hn : 0 < n := by omega
      rw [grd_succ k a n hn]
      have hm := isMax_run hn hf he hb
      obtain ⟨h1, h2, h3, h4⟩ := mf_is a n hn 16
      generalize mf a n 16 = f at *
      have hp : 0 < 2 ^ f := Nat.pow_pos (by decide)
      have e : a + 2 ^ f + (n - 2 ^ f) = a + n := by omega
      exact .take hm (by omega) (tiles_run k (a + 2 ^ f) (n - 2 ^ f) (by omega) (fun i i1 i2 => hf i (by omega) (by omega)) (by rw [e]; exact he) (by omega) (by omega) (by rw [e]; exact ht))
/-- The fewest stems of spans apart. -/
def grds (l : List (Nat × Nat)) : List (Nat × Nat) := l.flatMap fun s => grd 65536 s.1 (s.2 + 1 - s.1)
theorem tiles_canon {p : Nat → Bool} : ∀ (l : List (Nat × Nat)) (k : Nat), Canon k l → k ≤ 65537 → (∀ i, i < 65536 → k ≤ i → p i = memB l i) → (∀ j, k = j + 1 → j < 65536 → p j = false) → Tiles p (min k 65536) 65536 (grds l)
  | [], k, _, hk, hp, _ => by
    have hb : bare p (min k 65536) (65536 - min k 65536) := fun i h1 h2 => by rw [hp i (by omega) (by omega)]; rfl
    rw [Tiles.skips (65536 - min k 65536) _ hb (by omega), show min k 65536 + (65536 - min k 65536) = 65536 by omega]
    exact .done _
  | s :: l, k, hc, hk, hp, hj => by
    obtain ⟨c1, c2, c3, c4⟩ := hc
    have hs1 : ∀ i, i < 65536 → s.1 ≤ i → i ≤ s.2 → p i = true := fun i h1 h2 h3 => by rw [hp i h1 (by omega), memB_cons, (hasB_iff s i).2 ⟨h2, h3⟩]; rfl
    have hs0 : ∀ i, i < 65536 → k ≤ i → i < s.1 → p i = false := fun i h1 h2 h3 => by
      rw [hp i h1 h2, memB_cons]
      have : hasB s i = false := by rw [← Bool.not_eq_true, hasB_iff]; omega
      rw [this, Bool.false_or, ← Bool.not_eq_true]
      intro hm
      have := (c4.from hm).1
      omega
    have hn : ∀ i, i < 65536 → i = s.2 + 1 → p i = false := fun i h1 h2 => by
      rw [hp i h1 (by omega), memB_cons]
      have : hasB s i = false := by rw [← Bool.not_eq_true, hasB_iff]; omega
      rw [this, Bool.false_or, ← Bool.not_eq_true]
      intro hm
      have := (c4.from hm).1
      omega
    have ih := tiles_canon l (s.2 + 2) c4 (by omega) (fun i h1 h2 => by
      rw [hp i h1 (by omega), memB_cons]
      have : hasB s i = false := by rw [← Bool.not_eq_true, hasB_iff]; omega
      rw [this, Bool.false_or]) (fun j e hj => hn j hj (by omega))
    have ih2 : Tiles p (s.2 + 1) 65536 (grds l) := by
      by_cases h : s.2 + 1 < 65536
      · rw [show min (s.2 + 2) 65536 = s.2 + 1 + 1 by omega] at ih
        exact .skip h (hn _ h rfl) ih
      · rw [show min (s.2 + 2) 65536 = s.2 + 1 by omega] at ih
        exact ih
    have hr := tiles_run (p := p) (b := 65536) (l := grds l) 65536 s.1 (s.2 + 1 - s.1) (by omega) (fun i h1 h2 => hs1 i (by omega) (by omega) (by omega))
      (by
        rw [show s.1 + (s.2 + 1 - s.1) = s.2 + 1 by omega]
        by_cases h : s.2 + 1 < 65536
        · exact .inl (hn _ h rfl)
        · exact .inr (by omega)) (by omega) (by omega) (by rw [show s.1 + (s.2 + 1 - s.1) = s.2 + 1 by omega]; exact ih2)
    rw [show min k 65536 = k by omega]
    have hbr : bare p k (s.1 - k) := fun i h1 h2 => hs0 i (by omega) h1 (by omega)
    rw [Tiles.skips (s.1 - k) k hbr (by omega), show k + (s.1 - k) = s.1 by omega]
    exact hr
/-- The fewest stems of a set, by its spans. -/
theorem tl_canon {p : Nat → Bool} {l : List (Nat × Nat)} (hc : Canon 0 l) (hp : ∀ i, i < 65536 → p i = memB l i) : tl p 16 0 = grds l :=
  (Tiles.is (by have := tiles_canon (p := p) l 0 hc (by omega) (fun i h _ => hp i h) (fun j e _ => by omega); simpa using this)).symm
theorem tl_span {lo hi : Nat} (h1 : lo ≤ hi) (h2 : hi < 65536) : tl (hasB (lo, hi)) 16 0 = grd 65536 lo (hi + 1 - lo) := by
  rw [tl_canon (l := [(lo, hi)]) ⟨Nat.zero_le _, h1, h2, trivial⟩ (fun i _ => by simp [memB_cons, memB_nil])]
  simp [grds]
theorem ex_of : tl (hasB (1, 6)) 16 0 = [(1, 16), (2, 15), (4, 15), (6, 16)] := by rw [tl_span (by decide) (by decide)]; decide +kernel
theorem ex_cnt : (tl (hasB (1, 65534)) 16 0).length = 30 := by rw [tl_span (by decide) (by decide)]; decide +kernel
end Go.Proofs.Ytcjpjofoddpfhaa.Xp
