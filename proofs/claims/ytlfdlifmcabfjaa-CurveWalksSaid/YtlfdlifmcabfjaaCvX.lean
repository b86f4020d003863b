/-
  Small laws on worlds, blocks that stay, and marks. No program is named here.
-/
import Derived.Test.YtlfdlifmcabfjaaTrX
import Derived.Test.YtlfdlifmcabfjaaTrTb
namespace Go.Proofs.Ytlfdlifmcabfjaa
open Go.RowKit Go.Shelf
set_option linter.unusedVariables false
set_option linter.unusedSimpArgs false

theorem grown_of_below {w w' : World} (h : Below w.heap.size w w') : w.grownBy w' none := ⟨h.os, h.tape, h.output, h.size, fun k hk _ => h.block k hk⟩
/-- Certain blocks stay. -/
def Kpt (P : Nat → Prop) (W W' : World) : Prop := W.heap.size ≤ W'.heap.size ∧ ∀ k, P k → W'.heap[k]? = W.heap[k]?
theorem kpt_t {P : Nat → Prop} {A B C : World} (h : Kpt P A B) (k : Kpt P B C) : Kpt P A C := ⟨Nat.le_trans h.1 k.1, fun i hi => (k.2 i hi).trans (h.2 i hi)⟩
theorem kpt_b {P : Nat → Prop} {w : World} (hP : ∀ k, P k → k < w.heap.size) (W : World) (l : Nat) (o o' : Obj) (hl : w.heap.size ≤ l) (h : W.heap[l]? = some o) (_ : o.isCells = false) (_ : o.isWalk = false) : Kpt P W (W.putObj l o') :=
  ⟨(grownBy_putObj' W l o').size, fun k hk => World.putObj_heap_other (by have := hP k hk; omega)⟩
theorem kpt_r {P : Nat → Prop} (A : World) : Kpt P A A := ⟨Nat.le_refl _, fun _ _ => rfl⟩
theorem kpt_below {P : Nat → Prop} {n₀ : Nat} {A B : World} (hP : ∀ k, P k → k < n₀) (h : Below n₀ A B) : Kpt P A B := ⟨h.size, fun k hk => h.block k (hP k hk)⟩
theorem blk_kept {W W' : World} {row : Option Nat} {B : Nat} {cs : Array Value} {ty : TypeId} {fr : Nat × Nat} (h : W.heap[B]? = some (.cells cs ty fr)) (hg : W.grownBy W' row) (hrow : ∀ r, row = some r → ∃ o : Obj, W.heap[r]? = some o ∧ o.isCells = false) : W'.heap[B]? = some (.cells cs ty fr) := by
  rw [hg.block B (blk_lt h) (fun e => ?_)]
  · exact h
  · obtain ⟨o, ho, hc⟩ := hrow B e.symm
    rw [h] at ho
    cases ho
    cases hc
theorem blk_putO {w : World} {B D : Nat} {cs : Array Value} {ty : TypeId} {fr : Nat × Nat} {ds : Option (List Deferred)} {o : Obj} (h : w.heap[B]? = some (.cells cs ty fr)) (hD : w.heap[D]? = some (.deferred ds)) : (w.putObj D o).heap[B]? = some (.cells cs ty fr) := by
  rw [World.putObj_heap_other (fun e => by subst e; rw [hD] at h; cases h)]; exact h
theorem rk_blk {B : Nat} {U : World → Nat → Prop} {V V' : World} (h : RK B U V V') {k : Nat} {o : Obj} (hk : V.heap[k]? = some o) (h1 : B ≤ k) (h2 : ¬ U V k) : V'.heap[k]? = some o := by rw [h.2.1 k h1 (blk_lt hk) h2]; exact hk
/-- A block that was just made is none that the rounds may write. -/
theorem not_u {B : Nat} {U : World → Nat → Prop} {V V' : World} {k : Nat} (hU : Stab B U) (hB : B ≤ V.heap.size) (hb : Below V.heap.size V V') (h : ∀ k, U V k → k < V.heap.size) (hk : V.heap.size ≤ k) : ¬ U V' k := fun e => by
  have := h k (hU V V' none k hB (grown_of_below hb) (fun r e => by cases e) e); omega
theorem kpt_on {P : Nat → Prop} {n₀ : Nat} {A B : World} (hP : ∀ k, P k → k < n₀) (hn : n₀ ≤ A.heap.size) (h : Below A.heap.size A B) : Kpt P A B := ⟨h.size, fun k hk => h.block k (by have := hP k hk; omega)⟩
theorem kpt_set {P : Nat → Prop} (V : World) (B j : Nat) (u : Value) (h : ¬ P B) : Kpt P V (V.setCell ⟨B, j, none⟩ u) := ⟨by simp, fun q hq => Below.heap_setCell V ⟨B, j, none⟩ u q (fun e => h (by simp only at e; exact e ▸ hq))⟩
theorem drew_blk {V : World} {B : Nat} {o : Obj} (h : V.heap[B]? = some o) : V.drew.heap[B]? = some o := h
def dmk (D : Nat) : Deferred := { target := .collected D, args := #[] }
/-- The marks of the loops that were gone through. -/
def Mks (ds : List Nat) (V : World) : Prop := ds.Pairwise (· ≠ ·) ∧ ∀ D ∈ ds, V.heap[D]? = some (.deferred (some []))
theorem Mks.on {ds : List Nat} {V V' : World} (h : Mks ds V) (hb : Below V.heap.size V V') : Mks ds V' := ⟨h.1, fun D hD => by
  have h1 := h.2 D hD
  rw [hb.block D (by
    rcases Nat.lt_or_ge D V.heap.size with h | h
    · exact h
    · rw [Array.getElem?_eq_none h] at h1; cases h1)]
  exact h1⟩
theorem run_store_float (P : Program) (w : World) (a : Addr) (m : Mode) (k : FloatKind) (b : Nat) : (store a (.float k b) m).run P w = stored P w a (.float k b) m := run_store P w a _ m rfl
theorem leaves_marks {F : Fence} {n : Nat} {P : Program} {fn : Func} {tmps : Array Value} {R : Ending → World → Prop} (X : World → Prop) (S : Nat → Prop)
    (hX : ∀ V D, S D → V.heap[D]? = some (.deferred (some [])) → X V → X (V.putObj D (.deferred none))) (hE : ∀ V, X V → LeavesInM F n P fn tmps R [] .returning V) :
    ∀ (ds : List Nat) (V : World), Mks ds V → (∀ D ∈ ds, S D) → X V → LeavesInM F n P fn tmps R (ds.map dmk) .returning V
  | [], V, _, _, hx => hE V hx
  | D :: ds, V, hM, hS, hx => by
    have hD := hM.2 D List.mem_cons_self
    refine ⟨by simp, .inl ⟨_, _, rfl, run_takeDeferred hD, ?_⟩⟩
    refine leaves_marks X S hX hE ds _ ⟨(List.pairwise_cons.1 hM.1).2, fun E hE' => ?_⟩ (fun E hE' => hS E (List.mem_cons_of_mem _ hE')) (hX V D (hS D List.mem_cons_self) hD hx)
    rw [World.putObj_heap_other (fun e => (List.pairwise_cons.1 hM.1).1 E hE' e.symm)]
    exact hM.2 E (List.mem_cons_of_mem _ hE')
end Go.Proofs.Ytlfdlifmcabfjaa
