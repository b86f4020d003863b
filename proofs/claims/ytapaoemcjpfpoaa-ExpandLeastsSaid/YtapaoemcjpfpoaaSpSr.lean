/-
  A list of spans that is read; the document's Same of two lists that are the same.
-/
import Derived.Test.YtapaoemcjpfpoaaSpU
namespace Go.Proofs.Ytapaoemcjpfpoaa
open Go.RowKit
set_option linter.unusedVariables false
set_option linter.unusedSimpArgs false

/-- The slice v of w reads as the list. -/
def Src (w : World) (v : Value) (l : List (Nat × Nat)) : Prop :=
  ∃ (ad : Option Addr) (cap : Nat), v = .slice ad l.length cap ∧ (0 < l.length → ∃ g off, ad = some ⟨g, off, none⟩ ∧ ∀ j u, (flat l)[j]? = some u → w.cell? ⟨g, off + j, none⟩ = some u)
theorem Row.src {w : World} {b : Nat} {v : Value} {l : List (Nat × Nat)} (h : Row w b v l) : Src w v l := by
  rcases h.2 with ⟨hv, hn⟩ | ⟨g, cap, cur, hv, hb, hg, r⟩
  · exact ⟨none, 0, by rw [hv, hn], fun h0 => by omega⟩
  · subst hv
    refine ⟨_, cap, rfl, fun _ => ⟨g, 0, rfl, fun j u hu => ?_⟩⟩
    have := World.ownsRow.cells h (g := g) rfl j u hu
    rwa [Addr.add_lit] at this
theorem Src.keep {w w1 : World} {v : Value} {l : List (Nat × Nat)} (h : Src w v l) (hb : Below w.heap.size w w1) : Src w1 v l := by
  obtain ⟨ad, cap, rfl, h2⟩ := h
  refine ⟨ad, cap, rfl, fun h0 => ?_⟩
  obtain ⟨g, off, rfl, h3⟩ := h2 h0
  exact ⟨g, off, rfl, fun j u hu => by
    have := h3 j u hu
    rw [hb.cell (World.block_lt_of_cell? w _ this)]; exact this⟩
theorem Src.at {w : World} {v : Value} {l : List (Nat × Nat)} (h : Src w v l) : ∃ (ad : Option Addr) (cap : Nat), v = .slice ad l.length cap ∧
    (0 < l.length → ∃ g off, ad = some ⟨g, off, none⟩ ∧ ∀ k (hk : k < l.length), w.cell? ⟨g, off + k * 2, none⟩ = some (.int .u16 ((l[k]'hk).1 : Int)) ∧ w.cell? ⟨g, off + k * 2 + 1, none⟩ = some (.int .u16 ((l[k]'hk).2 : Int))) := by
  obtain ⟨ad, cap, rfl, h2⟩ := h
  refine ⟨ad, cap, rfl, fun h0 => ?_⟩
  obtain ⟨g, off, rfl, h3⟩ := h2 h0
  exact ⟨g, off, rfl, fun k hk => ⟨h3 _ _ (flat_at l k hk).1, by rw [Nat.add_assoc]; exact h3 _ _ (flat_at l k hk).2⟩⟩
/-- A list that is written out, in memory. -/
theorem src_of_cells {w : World} {g : Nat} {cur : Array Value} {l : List (Nat × Nat)} {n cap : Nat} (hg : w.heap[g]? = some (.cells cur 26 (0, 0))) (hc : cur.toList = flat l) (hn : n = l.length) : Src w (.slice (some ⟨g, 0, none⟩) n cap) l := by
  subst hn
  refine ⟨_, cap, rfl, fun _ => ⟨g, 0, rfl, fun j u hu => ?_⟩⟩
  rw [cell_of_row w g (0 + j) cur _ (0, 0) hg, Nat.zero_add, ← Array.getElem?_toList, hc]
  exact hu
set_option maxHeartbeats 1000000 in
theorem sameX (l : List (Nat × Nat)) (hl : l.length ≤ 4294967296) (v u : Value) (w : World) (h1 : Src w v l) (h2 : Src w u l) :
    Calls Try.prog 25 #[v, u] w fun e w' => e = .returned (.bool true) ∧ Below w.heap.size w w' := by
  obtain ⟨a1, cap1, rfl, f1⟩ := h1.at
  obtain ⟨a2, cap2, rfl, f2⟩ := h2.at
  clear h1 h2
  go_enter Try.func25, Try.ntmps25
  go_wp2
  go_loopw [5] (fun i wr => ∃ k d : Nat, k ≤ l.length ∧ i = .int .i64 k ∧ wr = w.drewN d) (fun i _ => l.length - (intOf i).toNat)
  case atStart => exact ⟨0, 0, Nat.zero_le _, rfl, rfl⟩
  case round =>
    obtain ⟨k, d, hk, rfl, rfl⟩ := hrel
    by_cases hlt : k < l.length
    · obtain ⟨g1, o1, rfl, c1⟩ := f1 (by omega)
      obtain ⟨g2, o2, rfl, c2⟩ := f2 (by omega)
      obtain ⟨p, hp⟩ : ∃ p, p = l[k] := ⟨_, rfl⟩
      obtain ⟨x1, y1⟩ := c1 k hlt
      obtain ⟨x2, y2⟩ := c2 k hlt
      rw [← hp] at x1 y1 x2 y2
      clear c1 c2 f1 f2 hp
      have hlt' : (k : Int) < (l.length : Int) := by omega
      have hk0 : (0 : Int) ≤ (k : Int) := by omega
      go_wp2
      go_quiet (fail)
      go_wp2
      go_roundw
      case rel => exact ⟨k + 1, _, by omega, by go_num, rfl⟩
      case measure => simp [intOf]; omega
    · go_wp2
      go_ret
      exact ⟨rfl, by (repeat (first | assumption | exact Below.refl _ _ | refine Below.drew ?_ | refine bel_drewN ?_ _ | refine Below.setCell ?_ (by first | omega | (simp; done) | (simp; omega)) _ | refine Below.alloc ?_ (by first | omega | (simp; done) | (simp; omega)) _ | refine bel_of ?_ (by assumption)))⟩
end Go.Proofs.Ytapaoemcjpfpoaa
