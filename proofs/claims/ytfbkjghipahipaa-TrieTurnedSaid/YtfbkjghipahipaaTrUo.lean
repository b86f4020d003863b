/-
  What a put of any key leaves, told for TrieUndone.
-/
import Derived.Test.YtfbkjghipahipaaTrUn
namespace Go.Proofs.Ytfbkjghipahipaa
open Go.RowKit Go.Shelf
set_option linter.unusedVariables false
set_option linter.unusedSimpArgs false

/-- The three ways of a put: a new key, a held one, none. -/
def PutWays (Wd M : Nat) (L : List En) (ar k : Nat) (n : Int) (pe : Int) (hd : Bool) (L4 : List En) (a4 : Nat) : Prop :=
  (pe = 0 ∧ hd = false ∧ cutE Wd L4 k n = 0 ∧ cutM Wd L4 k n = L ∧ a4 = max ar (cntL Wd 0 none L4) ∧ cntL Wd 0 none L ≤ cntL Wd 0 none L4 ∧ ((cntL Wd 0 none L4 : Nat) : Int) ≤ (cntL Wd 0 none L : Int) + n + 1 ∧ 0 ≤ n ∧ n ≤ 32) ∨
  (pe = 0 ∧ hd = true ∧ cntL Wd 0 none L4 = cntL Wd 0 none L ∧ a4 = ar) ∨
  ((pe = 120 ∨ pe = 122) ∧ hd = false ∧ L4 = L ∧ a4 = ar)
theorem put_ways {w : World} {t : Nat} {v : Value} {Wd M : Nat} {L : List En} {ar : Nat} (h : Tr w t v Wd M L ar) (hW : Wd ≤ 32) (k : Nat) (n vv : Int) :
    PutWays Wd M L ar k n (putE Wd M L k n vv) (oB (getV Wd L k n)) (putM Wd M L k n vv) (putA Wd M L ar k n vv) := by
  obtain ⟨hc1, hc2, hc3⟩ := h.cntA
  cases hm : mayB Wd k n
  · have e1 : putE Wd M L k n vv = 120 := by unfold putE; rw [hm]; rfl
    refine .inr (.inr ⟨.inl e1, by unfold getV; rw [hm]; rfl, ?_, ?_⟩)
    · unfold putM; rw [e1]; rfl
    · unfold putA; rw [e1]; rfl
  · obtain ⟨m, rfl, hmy⟩ := mayB_iff.1 hm
    have hg : getV Wd L k (m : Int) = val L k m := by unfold getV; rw [hm, if_pos rfl, Int.toNat_natCast]
    have hE : putE Wd M L k (m : Int) vv = if cntL Wd 0 none (putL L ⟨k, m, vv⟩) ≤ M then 0 else 122 := by unfold putE; rw [hm, if_pos rfl, Int.toNat_natCast]
    rw [hg]
    obtain ⟨p1, p2⟩ := h.cntP (x := ⟨k, m, vv⟩) hmy
    cases hv : val L k m with
    | some u =>
      have hc := put_had h.srt (x := ⟨k, m, vv⟩) hv Wd
      have e0 : putE Wd M L k (m : Int) vv = 0 := by rw [hE, if_pos (by omega)]
      refine .inr (.inl ⟨e0, rfl, ?_, ?_⟩)
      · unfold putM; rw [if_pos e0, Int.toNat_natCast]; exact hc
      · unfold putA; rw [if_pos e0, Int.toNat_natCast, hc]; omega
    | none =>
      obtain ⟨q1, q2⟩ := put_cut h.srt (x := ⟨k, m, vv⟩) hv
      by_cases hle : cntL Wd 0 none (putL L ⟨k, m, vv⟩) ≤ M
      · have e0 : putE Wd M L k (m : Int) vv = 0 := by rw [hE, if_pos hle]
        have eM : putM Wd M L k (m : Int) vv = putL L ⟨k, m, vv⟩ := by unfold putM; rw [if_pos e0, Int.toNat_natCast]
        have eA : putA Wd M L ar k (m : Int) vv = max ar (cntL Wd 0 none (putL L ⟨k, m, vv⟩)) := by unfold putA; rw [if_pos e0, Int.toNat_natCast]
        have c0 : cutE Wd (putL L ⟨k, m, vv⟩) k (m : Int) = 0 := by unfold cutE; rw [hm, if_pos rfl, Int.toNat_natCast, if_pos q1]
        have c1 : cutM Wd (putL L ⟨k, m, vv⟩) k (m : Int) = L := by unfold cutM; rw [if_pos c0, Int.toNat_natCast]; exact q2
        have hm1 := hmy.1
        simp only at p2
        rw [e0, eM, eA]
        exact .inl ⟨rfl, rfl, c0, c1, rfl, p1, by omega, by omega, by omega⟩
      · have e0 : putE Wd M L k (m : Int) vv = 122 := by rw [hE, if_neg hle]
        refine .inr (.inr ⟨.inr e0, rfl, ?_, ?_⟩)
        · unfold putM; rw [e0]; rfl
        · unfold putA; rw [e0]; rfl
end Go.Proofs.Ytfbkjghipahipaa
