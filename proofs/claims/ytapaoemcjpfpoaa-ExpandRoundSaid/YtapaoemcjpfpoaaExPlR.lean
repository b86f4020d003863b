/-
  What the fewest stems of a span are: each lies in it, a port lies in one of them just if it lies in the span, they have the span's ports, and they are 1 to 30.
-/
import Derived.Test.YtapaoemcjpfpoaaExPlM
import Derived.Test.YtapaoemcjpfpoaaExPlC
import Derived.Test.YtapaoemcjpfpoaaExE
import Derived.Test.YtapaoemcjpfpoaaSpB
namespace Go.Proofs.Ytapaoemcjpfpoaa
open Go.RowKit
set_option linter.unusedVariables false

theorem inS_is (lo hi : Nat) : inS lo hi = hasB (lo, hi) := by
  funext i
  rw [Bool.eq_iff_iff, hasB_iff]
  simp [inS]
theorem ofS_len {lo hi : Nat} : (tl (hasB (lo, hi)) 16 0).length ≤ 30 := by
  have := tl_few lo hi 16 0 (by decide)
  rw [inS_is] at this
  exact this
structure Fits (lo hi : Nat) (t : Nat × Nat) : Prop where
  bd : t.1 < 65536
  may : mayT t.1 (t.2 : Int) = true
  wi : wiB t.1 (topT t.1 (t.2 : Int)) lo hi = true
  cnt : cntS t.1 (topT t.1 (t.2 : Int)) = 2 ^ (16 - t.2)
  has : ∀ q, hasT t.1 (t.2 : Int) q = hos q t
theorem ofS_fits {lo hi : Nat} (h1 : lo ≤ hi) (h2 : hi < 65536) : ∀ t ∈ tl (hasB (lo, hi)) 16 0, Fits lo hi t := by
  intro t ht
  have hs := tl_sits (hasB (lo, hi)) 16 0 (Nat.le_refl _) ⟨0, by simp⟩ t ht
  have hp : 0 < 2 ^ (16 - t.2) := Nat.pow_pos (by decide)
  have h0 := hs.le
  have hl := hs.len
  have a1 := (hasB_iff _ _).1 (hs.all t.1 (Nat.le_refl _) (by omega))
  have a2 := (hasB_iff _ _).1 (hs.all (t.1 + 2 ^ (16 - t.2) - 1) (by omega) (by omega))
  simp only at a1 a2
  have hm : mayT t.1 (t.2 : Int) = true := by
    unfold mayT
    rw [Int.toNat_natCast]
    exact decide_eq_true ⟨by omega, by omega, Nat.mod_eq_zero_of_dvd hs.dvd⟩
  have htop : topT t.1 (t.2 : Int) = t.1 + 2 ^ (16 - t.2) - 1 := by unfold topT; rw [Int.toNat_natCast]
  refine ⟨by omega, hm, ?_, ?_, fun q => ?_⟩
  · rw [htop]
    unfold wiB
    simp
    omega
  · rw [htop]
    unfold cntS
    omega
  · rw [hasT_is hm, htop, Bool.eq_iff_iff, hasB_iff]
    unfold hos
    rw [decide_eq_true_iff]
    simp only
    omega
theorem ofS_count {lo hi : Nat} (q : Nat) (hq : q < 65536) : (tl (hasB (lo, hi)) 16 0).countP (hos q) = if hasB (lo, hi) q = true then 1 else 0 := by
  rw [tl_count (hasB (lo, hi)) q 16 0 (Nat.le_refl _) ⟨0, by simp⟩]
  have : decide (0 ≤ q ∧ q < 0 + 2 ^ 16) = true := decide_eq_true ⟨Nat.zero_le _, by omega⟩
  rw [this, Bool.true_and]
theorem ofS_pos {lo hi : Nat} (h1 : lo ≤ hi) (h2 : hi < 65536) : 1 ≤ (tl (hasB (lo, hi)) 16 0).length := by
  have h := ofS_count (lo := lo) (hi := hi) lo (by omega)
  rw [if_pos ((hasB_iff _ _).2 ⟨Nat.le_refl _, h1⟩)] at h
  have := List.countP_le_length (p := hos lo) (l := tl (hasB (lo, hi)) 16 0)
  omega
theorem ofS_sum {lo hi : Nat} (h1 : lo ≤ hi) (h2 : hi < 65536) : ((tl (hasB (lo, hi)) 16 0).map fun t => 2 ^ (16 - t.2)).sum = cntS lo hi := by
  rw [tl_ports (hasB (lo, hi)) 16 0 (Nat.le_refl _)]
  have e1 : ah (hasB (lo, hi)) (0 + lo) = ah (hasB (lo, hi)) 0 := (ah_bare _ _ _).2 fun i i1 i2 => by rw [← Bool.not_eq_true, hasB_iff]; simp only; omega
  have e2 : ah (hasB (lo, hi)) (lo + (hi + 1 - lo)) = ah (hasB (lo, hi)) lo + (hi + 1 - lo) := (ah_full _ _ _).2 fun i i1 i2 => (hasB_iff _ _).2 ⟨i1, by simp only; omega⟩
  have e3 : ah (hasB (lo, hi)) (hi + 1 + (65536 - (hi + 1))) = ah (hasB (lo, hi)) (hi + 1) := (ah_bare _ _ _).2 fun i i1 i2 => by rw [← Bool.not_eq_true, hasB_iff]; simp only; omega
  rw [Nat.zero_add] at e1
  rw [show lo + (hi + 1 - lo) = hi + 1 by omega] at e2
  rw [show hi + 1 + (65536 - (hi + 1)) = 0 + 2 ^ 16 by omega] at e3
  unfold cntS
  omega
theorem ofS_mem {lo hi : Nat} (h1 : lo ≤ hi) (h2 : hi < 65536) (i : Nat) (hi' : i < 65536) : memT (castT (tl (hasB (lo, hi)) 16 0)) i = hasB (lo, hi) i := by
  have hc := ofS_count (lo := lo) (hi := hi) i hi'
  have hf := ofS_fits h1 h2
  generalize tl (hasB (lo, hi)) 16 0 = L at *
  have e : memT (castT L) i = L.any (hos i) := by
    unfold memT castT
    rw [List.any_map]
    rw [Bool.eq_iff_iff, List.any_eq_true, List.any_eq_true]
    constructor
    · rintro ⟨t, ht, h⟩
      refine ⟨t, ht, ?_⟩
      rw [← (hf t ht).has, hasT_is (hf t ht).may]
      exact h
    · rintro ⟨t, ht, h⟩
      refine ⟨t, ht, ?_⟩
      rw [← (hf t ht).has, hasT_is (hf t ht).may] at h
      exact h
  rw [e, Bool.eq_iff_iff, List.any_eq_true]
  cases hb : hasB (lo, hi) i
  · rw [hb] at hc
    simp only [Bool.false_eq_true, if_false, iff_false] at hc ⊢
    rintro ⟨t, ht, h⟩
    have := List.countP_pos_iff.2 ⟨t, ht, h⟩
    omega
  · rw [hb] at hc
    simp only [if_true, iff_true] at hc ⊢
    exact List.countP_pos_iff.1 (by omega)
theorem ofS_ok {lo hi : Nat} (h1 : lo ≤ hi) (h2 : hi < 65536) : okT (castT (tl (hasB (lo, hi)) 16 0)) = true ∧ BdT (castT (tl (hasB (lo, hi)) 16 0)) := by
  have hf := ofS_fits h1 h2
  generalize tl (hasB (lo, hi)) 16 0 = L at *
  constructor
  · unfold okT castT
    rw [List.all_map, List.all_eq_true]
    exact fun t ht => (hf t ht).may
  · intro s hs
    obtain ⟨t, ht, rfl⟩ := List.mem_map.1 hs
    exact (hf t ht).bd
theorem ofS_back {lo hi : Nat} (h1 : lo ≤ hi) (h2 : hi < 65536) : canonOf (memT (castT (tl (hasB (lo, hi)) 16 0))) = [(lo, hi)] :=
  (eq_canonOf (l := [(lo, hi)]) ⟨Nat.zero_le _, h1, h2, trivial⟩ fun i h => by rw [ofS_mem h1 h2 i h]; simp [memB_cons, memB_nil]).symm
theorem ofS_least {lo hi : Nat} (h1 : lo ≤ hi) (h2 : hi < 65536) : tl (memT (castT (tl (hasB (lo, hi)) 16 0))) 16 0 = tl (hasB (lo, hi)) 16 0 :=
  tl_congr (fun i h => ofS_mem h1 h2 i h) 16 0 (by decide)
end Go.Proofs.Ytapaoemcjpfpoaa
