/-
  A table of slots in memory; how a header is scattered.
-/
import Derived.Test.YthfjdoenofkghaaDoorHsU
import Derived.Test.YthfjdoenofkghaaDoorHdU
import Derived.Test.YthfjdoenofkghaaDoorHhT
import Derived.Laws.BitsAllLaws
import Derived.ScopeJumps
import Derived.WalkMore
namespace Go.Proofs.YthfjdoenofkghaaDoor.Ss
open Go.RowKit
set_option linter.unusedVariables false
set_option linter.unusedSimpArgs false

/-- The table in block t: how many entries there may be, are, how many slots are not free, the slots in the row v. -/
def Tab (w : World) (t : Nat) (v : Value) (M c sp : Nat) (l : List SlI) : Prop :=
  w.heap[t]? = some (.cells #[.int .i64 (M : Int), .int .i64 (c : Int), .int .i64 (sp : Int), v] 43 (0, 0)) ∧ RowL w 0 v l ∧ v.ownBlock ≠ some t
section
variable {w w1 : World} {t : Nat} {v : Value} {M c sp : Nat} {l : List SlI}
theorem Tab.on (h : Tab w t v M c sp l) (hb : Below w.heap.size w w1) : Tab w1 t v M c sp l := ⟨blk_on h.1 hb, h.2.1.on hb, h.2.2⟩
theorem Tab.lt (h : Tab w t v M c sp l) : t < w.heap.size := blk_lt h.1
theorem Tab.own (h : Tab w t v M c sp l) {k : Nat} (e : v.ownBlock = some k) : k < w.heap.size := (h.2.1.lt k e).2
theorem Tab.drew (h : Tab w t v M c sp l) : Tab w.drew t v M c sp l := h
end
theorem blk4 {w : World} {B : Nat} {v0 v1 v2 v3 : Value} {t : TypeId} {fr : Nat × Nat} (h : w.heap[B]? = some (.cells #[v0, v1, v2, v3] t fr)) : w.cell? ⟨B, 0, none⟩ = some v0 ∧ w.cell? ⟨B, 1, none⟩ = some v1 ∧ w.cell? ⟨B, 2, none⟩ = some v2 ∧ w.cell? ⟨B, 3, none⟩ = some v3 := ⟨blk_cell h rfl, blk_cell h rfl, blk_cell h rfl, blk_cell h rfl⟩
theorem blk3 {w : World} {B : Nat} {v0 v1 v2 : Value} {t : TypeId} {fr : Nat × Nat} (h : w.heap[B]? = some (.cells #[v0, v1, v2] t fr)) : w.cell? ⟨B, 0, none⟩ = some v0 ∧ w.cell? ⟨B, 1, none⟩ = some v1 ∧ w.cell? ⟨B, 2, none⟩ = some v2 := ⟨blk_cell h rfl, blk_cell h rfl, blk_cell h rfl⟩
/-- What a call that writes the table leaves as it was; v: its row ahead, v': behind. -/
structure Moved (w w' : World) (t : Nat) (v v' : Value) : Prop where
  os : w'.os = w.os
  tape : w'.tape = w.tape
  output : w'.output = w.output
  size : w.heap.size ≤ w'.heap.size
  block : ∀ k, k < w.heap.size → k ≠ t → v.ownBlock ≠ some k → w'.heap[k]? = w.heap[k]?
  own : ∀ k, v'.ownBlock = some k → v.ownBlock = some k ∨ w.heap.size ≤ k
theorem Moved.of_below {w w' : World} {t : Nat} {v : Value} (h : Below w.heap.size w w') : Moved w w' t v v :=
  ⟨h.os, h.tape, h.output, h.size, fun k hk _ _ => h.block k hk, fun k e => .inl e⟩
theorem Moved.below {w w' : World} {t B : Nat} {v v' : Value} (h : Moved w w' t v v') (hB : B ≤ w.heap.size) (ht : B ≤ t) (hv : ∀ k, v.ownBlock = some k → B ≤ k) : Below B w w' :=
  ⟨h.os, h.tape, h.output, h.size, fun k hk => h.block k (by omega) (by omega) (fun e => by have := hv k e; omega)⟩
theorem Moved.ge {w w' : World} {t B : Nat} {v v' : Value} (h : Moved w w' t v v') (hB : B ≤ w.heap.size) (hv : ∀ k, v.ownBlock = some k → B ≤ k) : ∀ k, v'.ownBlock = some k → B ≤ k := fun k e => by
  rcases h.own k e with h1 | h1
  · exact hv k h1
  · omega
theorem Moved.trans {w w1 w2 : World} {t : Nat} {v v1 v2 : Value} (h : Moved w w1 t v v1) (g : Moved w1 w2 t v1 v2) : Moved w w2 t v v2 :=
  ⟨g.os.trans h.os, g.tape.trans h.tape, g.output.trans h.output, Nat.le_trans h.size g.size, fun k hk ht hv => by
    rw [g.block k (Nat.lt_of_lt_of_le hk h.size) ht (fun e => by rcases h.own k e with h1 | h1
                                                                 · exact hv h1
                                                                 · omega), h.block k hk ht hv], fun k e => by
    rcases g.own k e with h1 | h1
    · exact h.own k h1
    · exact .inr (Nat.le_trans h.size h1)⟩
theorem Moved.undrew {w w' : World} {t : Nat} {v v' : Value} (m : Moved w.drew w' t v v') : Moved w w' t v v' := ⟨m.os, m.tape, m.output, m.size, m.block, m.own⟩
/-- A block that is neither the table's nor its row's. -/
def Kb (w : World) (t : Nat) (v : Value) (B : Nat) (o : Obj) : Prop := w.heap[B]? = some o ∧ B ≠ t ∧ v.ownBlock ≠ some B
theorem Kb.lt {w : World} {t : Nat} {v : Value} {B : Nat} {o : Obj} (h : Kb w t v B o) : B < w.heap.size := blk_lt h.1
theorem Kb.moved {w w' : World} {t : Nat} {v v' : Value} {B : Nat} {o : Obj} (h : Kb w t v B o) (m : Moved w w' t v v') : Kb w' t v' B o := by
  refine ⟨by rw [m.block B h.lt h.2.1 h.2.2]; exact h.1, h.2.1, fun e => ?_⟩
  rcases m.own B e with h1 | h1
  · exact h.2.2 h1
  · have := h.lt; omega
theorem Kb.on {w w1 : World} {t : Nat} {v : Value} {B : Nat} {o : Obj} (h : Kb w t v B o) (hb : Below w.heap.size w w1) : Kb w1 t v B o := ⟨blk_on h.1 hb, h.2.1, h.2.2⟩

end Go.Proofs.YthfjdoenofkghaaDoor.Ss
