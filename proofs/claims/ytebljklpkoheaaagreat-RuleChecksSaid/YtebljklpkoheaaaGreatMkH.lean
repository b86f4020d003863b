/-
  A list of bytes that is read; mask.Hull: what it hands back.
-/
import Derived.Test.YtebljklpkoheaaaGreatMkB
namespace Go.Proofs.YtebljklpkoheaaaGreat
open Go.RowKit
set_option linter.unusedVariables false
set_option linter.unusedSimpArgs false

/-- The slice v of w reads as the list of bytes. -/
def SrcB (w : World) (v : Value) (l : List Nat) : Prop :=
  ∃ (ad : Option Addr) (cap : Nat), v = .slice ad l.length cap ∧ (0 < l.length → ∃ g off, ad = some ⟨g, off, none⟩ ∧ ∀ k (hk : k < l.length), w.cell? ⟨g, off + k, none⟩ = some (.int .u8 ((l[k]'hk : Nat) : Int)))
theorem SrcB.keep {w w1 : World} {v : Value} {l : List Nat} (h : SrcB w v l) (hb : Below w.heap.size w w1) : SrcB w1 v l := by
  obtain ⟨ad, cap, rfl, h2⟩ := h
  refine ⟨ad, cap, rfl, fun h0 => ?_⟩
  obtain ⟨g, off, rfl, h3⟩ := h2 h0
  exact ⟨g, off, rfl, fun k hk => by
    have := h3 k hk
    rw [hb.cell (World.block_lt_of_cell? w _ this)]; exact this⟩
/-- Bytes. -/
def BdB (l : List Nat) : Prop := ∀ p ∈ l, p < 256
theorem takeB {l : List Nat} {k : Nat} (h : k < l.length) : l.take (k + 1) = l.take k ++ [l[k]] := by rw [List.take_succ_eq_append_getElem h]
end Go.Proofs.YtebljklpkoheaaaGreat
