/-
  A list of spans that is read; the document's Same of two lists that are the same.
-/
import Derived.Test.YtcjpjofoddpfhaaSpU
namespace Go.Proofs.Ytcjpjofoddpfhaa.Xp
open Go.RowKit
set_option linter.unusedVariables false
set_option linter.unusedSimpArgs false

/-- The slice v of w reads as the list. -/
def Src (w : World) (v : Value) (l : List (Nat × Nat)) : Prop :=
  ∃ (ad : Option Addr) (cap : Nat), v = .slice ad l.length cap ∧ (0 < l.length → ∃ g off, ad = some ⟨g, off, none⟩ ∧ ∀ j u, (flat l)[j]? = some u → w.cell? ⟨g, off + j, none⟩ = some u)
theorem Row.src {w : World} {b : Nat} {v : Value} {l : List (Nat × Nat)} (h : Row w b v l) : Src w v l := by
  rcases h.2 with ⟨hv, hn⟩ | ⟨g, cap, cur, hv, hb, hg, r⟩
  · exact ⟨none, 0, by rw [hv, hn], fun h0 => by omega⟩
  · subst hv
    refine ⟨_, cap, rfl, fun _ => ⟨g, 0, rfl, fun j u hu => ?_⟩⟩
    have := World.ownsRow.cells h (g := g) rfl j u hu
    rwa [Addr.add_lit] at this
theorem Src.keep {w w1 : World} {v : Value} {l : List (Nat × Nat)} (h : Src w v l) (hb : Below w.heap.size w w1) : Src w1 v l := by
  obtain ⟨ad, cap, rfl, h2⟩ := h
  refine ⟨ad, cap, rfl, fun h0 => ?_⟩
  obtain ⟨g, off, rfl, h3⟩ := h2 h0
  exact ⟨g, off, rfl, fun j u hu => by
    have := h3 j u hu
    rw [hb.cell (World.block_lt_of_cell? w _ this)]; exact this⟩
theorem Src.at {w : World} {v : Value} {l : List (Nat × Nat)} (h : Src w v l) : ∃ (ad : Option Addr) (cap : Nat), v = .slice ad l.length cap ∧
    (0 < l.length → ∃ g off, ad = some ⟨g, off, none⟩ ∧ ∀ k (hk : k < l.length), w.cell? ⟨g, off + k * 2, none⟩ = some (.int .u16 ((l[k]'hk).1 : Int)) ∧ w.cell? ⟨g, off + k * 2 + 1, none⟩ = some (.int .u16 ((l[k]'hk).2 : Int))) := by
  obtain ⟨ad, cap, rfl, h2⟩ := h
  refine ⟨ad, cap, rfl, fun h0 => ?_⟩
  obtain ⟨g, off, rfl, h3⟩ := h2 h0
  exact ⟨g, off, rfl, fun k hk => ⟨h3 _ _ (flat_at l k hk).1, by rw [Nat.add_assoc]; exact h3 _ _ (flat_at l k hk).2⟩⟩
/-- A list that is written out, in memory. -/
theorem src_of_cells {w : World} {g : Nat} {cur : Array Value} {l : List (Nat × Nat)} {n cap : Nat} (hg : w.heap[g]? = some (.cells cur 33 (0, 0))) (hc : cur.toList = flat l) (hn : n = l.length) : Src w (.slice (some ⟨g, 0, none⟩) n cap) l := by
  subst hn
  refine ⟨_, cap, rfl, fun _ => ⟨g, 0, rfl, fun j u hu => ?_⟩⟩
  rw [cell_of_row w g (0 + j) cur _ (0, 0) hg, Nat.zero_add, ← Array.getElem?_toList, hc]
  exact hu
end Go.Proofs.Ytcjpjofoddpfhaa.Xp
