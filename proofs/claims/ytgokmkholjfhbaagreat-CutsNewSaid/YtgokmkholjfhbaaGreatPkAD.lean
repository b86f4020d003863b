/-
  PkAD: BxW BxY, one behind the other (tools/pack.py).
-/
import Derived.Test.YtgokmkholjfhbaaGreatPkAA
import Derived.Laws.CopyRow
import Derived.Deep.MidRow
import Derived.Deep.RegionHeld3
set_option linter.unusedVariables false
set_option linter.unusedSimpArgs false
namespace Go.Proofs.YtgokmkholjfhbaaGreat
open Go.RowKit
structure Only (B : Nat) (w w' : World) : Prop where
 os : w'.os = w.os
 tape : w'.tape = w.tape
 output : w'.output = w.output
 size : w'.heap.size = w.heap.size
 block : ∀ k, k ≠ B → w'.heap[k]? = w.heap[k]?
theorem Only.below {B b : Nat} {w w' : World} (h : Only B w w') (hb : b ≤ B) : Below b w w' :=
 ⟨h.os, h.tape, h.output, Nat.le_of_eq h.size.symm, fun k hk => h.block k (by omega)⟩
theorem Only.cell {B : Nat} {w w' : World} (h : Only B w w') {p : Addr} {v : Value} (hp : p.block ≠ B) (hc : w.cell? p = some v) : w'.cell? p = some v := by
 unfold World.cell? at *
 rw [h.block _ hp]; exact hc
theorem only_setRow (w : World) (B : Nat) (c : Array Value) : Only B w (w.setRow B c) := by
 refine ⟨rfl, rfl, rfl, ?_, fun k hk => ?_⟩
 ·simp [World.setRow]
 ·simp [World.setRow, Array.getElem?_modify, Ne.symm hk]
theorem run_store_blk {P : Program} (w : World) (B o : Nat) (ty t : TypeId) (cs new old : Array Value) (h : w.heap[B]? = some (.cells old t (0, 0))) (hl : o + cs.size ≤ old.size)
  (hn : old.toList.take o ++ cs.toList ++ old.toList.drop (o + cs.size) = new.toList) (hi : (P.info? ty).map (·.size) = some cs.size) (h1 : cs.toList.all (·.oneCell') = true) :
  (Instr.storeAt ty (.pointer (some ⟨B, o, none⟩)) (.agg cs)).run P w = .ok () (w.setRow B new) := by
 have := run_storeCells_at (P := P) B o t cs.toList 0 old w h (by simpa using hl) (fun v hv => List.all_eq_true.1 h1 v hv)
 rw [show o + 0 + cs.toList.length = o + cs.size by simp, show o + 0 = o from rfl, hn, Array.toArray_toList] at this
 cases hq : P.info? ty with
 | none => simp [hq] at hi
 | some i =>
  have hs : cs.size = i.size := by simp [hq] at hi; omega
  simp [Instr.storeAt, Instr.sureAddr, storeVar, sizeOf, typeInfo, hq, Value.cells, hs, this]
theorem wpList_store_blk {P : Program} {ops : Array Oper} {rest : List Oper} {op : Oper} {a : Act} {w : World} {Q : Exit → Act → World → Prop} (hgd : op.guard = none) (ty : TypeId) (x y : Operand) (ho : op.op = .store ty x y)
  (B o : Nat) (cs new : Array Value) (hx : a.eval x = .pointer (some ⟨B, o, none⟩)) (hy : a.eval y = .agg cs) (t : TypeId) (old : Array Value)
  (h : w.heap[B]? = some (.cells old t (0, 0))) (hl : o + cs.size ≤ old.size) (hn : old.toList.take o ++ cs.toList ++ old.toList.drop (o + cs.size) = new.toList)
  (hi : (P.info? ty).map (·.size) = some cs.size) (h1 : cs.toList.all (·.oneCell') = true)
  (hk : ∀ w', w'.heap[B]? = some (.cells new t (0, 0)) → Only B w w' → wpList P ops Q rest (a.put op.dst undef) w') : wpList P ops Q (op :: rest) a w := by
 refine wpList_plain hgd fun K hK => ?_
 have hr := run_store_blk (P := P) w B o ty t cs new old h hl hn hi h1
 unfold Oper.wp execOp
 simp only [ho, hx, hy, Sem.run_bind, hr, Result.andThen_ok]
 exact hK _ _ (hk _ (setRow_heap w B old new t _ h) (only_setRow w B new))
theorem blk_alloc {w : World} {B : Nat} {o : Obj} (h : w.heap[B]? = some o) (o' : Obj) : (w.alloc o').heap[B]? = some o := by
 rw [Below.heap_alloc _ _ _ (Array.getElem?_eq_some_iff.1 h).1]; exact h
theorem blk_lt {w : World} {B : Nat} {o : Obj} (h : w.heap[B]? = some o) : B < w.heap.size := (Array.getElem?_eq_some_iff.1 h).1
theorem blk_on {w w1 : World} {B : Nat} {o : Obj} (h : w.heap[B]? = some o) (hb : Below w.heap.size w w1) : w1.heap[B]? = some o := by
 rw [hb.block B (blk_lt h)]; exact h
theorem blk_new (w : World) (o : Obj) : (w.alloc o).heap[w.heap.size]? = some o := by unfold World.alloc; simp
theorem blk_set {w : World} {B j : Nat} {cs : Array Value} {t : TypeId} {fr : Nat × Nat} (h : w.heap[B]? = some (.cells cs t fr)) (u : Value) : (w.setCell ⟨B, j, none⟩ u).heap[B]? = some (.cells (cs.setIfInBounds j u) t fr) := by
 simp [World.setCell, Array.getElem?_modify, h]
theorem blk_far {w : World} {B k j : Nat} {o : Obj} (h : w.heap[k]? = some o) (hk : k ≠ B) (u : Value) : (w.setCell ⟨B, j, none⟩ u).heap[k]? = some o := by
 rw [Below.heap_setCell _ _ _ _ hk]; exact h
theorem blk_cell {w : World} {B j : Nat} {cs : Array Value} {t : TypeId} {fr : Nat × Nat} {v : Value} (h : w.heap[B]? = some (.cells cs t fr)) (hv : cs[j]? = some v) : w.cell? ⟨B, j, none⟩ = some v := by
 simp [World.cell?, h, hv]
theorem blk_free {w : World} {B : Nat} {cs : Array Value} {t : TypeId} (h : w.heap[B]? = some (.cells cs t (0, 0))) (j : Nat) : w.frozen? ⟨B, j, none⟩ = false := by
 simp [World.frozen?, h]
theorem blk10 {w : World} {B : Nat} {v0 v1 v2 v3 v4 v5 v6 v7 v8 v9 : Value} {t : TypeId} {fr : Nat × Nat} (h : w.heap[B]? = some (.cells #[v0, v1, v2, v3, v4, v5, v6, v7, v8, v9] t fr)) :
  w.cell? ⟨B, 0, none⟩ = some v0 ∧ w.cell? ⟨B, 1, none⟩ = some v1 ∧ w.cell? ⟨B, 2, none⟩ = some v2 ∧ w.cell? ⟨B, 3, none⟩ = some v3 ∧ w.cell? ⟨B, 4, none⟩ = some v4 ∧ w.cell? ⟨B, 5, none⟩ = some v5 ∧ w.cell? ⟨B, 6, none⟩ = some v6 ∧ w.cell? ⟨B, 7, none⟩ = some v7 ∧ w.cell? ⟨B, 8, none⟩ = some v8 ∧ w.cell? ⟨B, 9, none⟩ = some v9 :=
 ⟨blk_cell h rfl, blk_cell h rfl, blk_cell h rfl, blk_cell h rfl, blk_cell h rfl, blk_cell h rfl, blk_cell h rfl, blk_cell h rfl, blk_cell h rfl, blk_cell h rfl⟩
theorem blk5 {w : World} {B : Nat} {v0 v1 v2 v3 v4 : Value} {t : TypeId} {fr : Nat × Nat} (h : w.heap[B]? = some (.cells #[v0, v1, v2, v3, v4] t fr)) :
  w.cell? ⟨B, 0, none⟩ = some v0 ∧ w.cell? ⟨B, 1, none⟩ = some v1 ∧ w.cell? ⟨B, 2, none⟩ = some v2 ∧ w.cell? ⟨B, 3, none⟩ = some v3 ∧ w.cell? ⟨B, 4, none⟩ = some v4 :=
 ⟨blk_cell h rfl, blk_cell h rfl, blk_cell h rfl, blk_cell h rfl, blk_cell h rfl⟩
theorem results_blk {P : Program} {fn : Func} {tmps : Array Value} {w : World} {t : Tmp} {ty T : TypeId} {d : TypeDesc} {B : Nat} {cs : Array Value} {fr : Nat × Nat} (h : fn.results = #[.cell t ty]) (hp : tmps.getD t undef = .pointer (some ⟨B, 0, none⟩))
  (hb : w.heap[B]? = some (.cells cs T fr)) (hu : P.underlying ty = some d) (hd : d.isRow = true) (hi : (P.info? ty).map (·.size) = some cs.size) : (results fn tmps).run P w = .ok (.agg cs) w := by
 have hl := run_loadVar_mid (P := P) w B 0 ty cs.toList d (by have := World.rangeAt_of_block hb 0 cs.size; simpa using this) hu hd (by simpa using hi)
 have hp2 : tmps[t]?.getD undef = .pointer (some ⟨B, 0, none⟩) := by simpa using hp
 simp [results, h, hp2, asAddr, hl]
theorem results_blk2 {P : Program} {fn : Func} {tmps : Array Value} {w : World} {t u : Tmp} {ty T : TypeId} {d : TypeDesc} {B : Nat} {cs : Array Value} {fr : Nat × Nat} (h : fn.results = #[.cell t ty, .tmp u]) (hp : tmps.getD t undef = .pointer (some ⟨B, 0, none⟩))
  (hb : w.heap[B]? = some (.cells cs T fr)) (hu : P.underlying ty = some d) (hd : d.isRow = true) (hi : (P.info? ty).map (·.size) = some cs.size) : (results fn tmps).run P w = .ok (.tuple #[.agg cs, tmps.getD u undef]) w := by
 have hl := run_loadVar_mid (P := P) w B 0 ty cs.toList d (by have := World.rangeAt_of_block hb 0 cs.size; simpa using this) hu hd (by simpa using hi)
 have hp2 : tmps[t]?.getD undef = .pointer (some ⟨B, 0, none⟩) := by simpa using hp
 simp [results, h, hp2, asAddr, hl]
theorem yieldsIf_index {P : Program} {ops : Array Oper} {S : World → Prop} {op : Oper} {a : Act} (hw : Region.wanted op (yielded ops a.tmps) = true) (ty : TypeId) (x y : Operand) (ho : op.op = .indexAddr ty x y) (v : Value)
  (hr : ∀ w, (Instr.indexAt ty (a.eval x) (a.eval y)).run P w = .ok v w) : YieldsIf P ops S op v a :=
 .inl ⟨hw, fun w _ => by unfold execOp; simp only [ho, Sem.run_bind, hr w, Result.andThen_ok, Sem.run_pure]⟩
theorem wpOp_of_wp {P : Program} {ops : Array Oper} {Q : Exit → Act → World → Prop} {i : Nat} {o : Oper} {a : Act} {w : World} {K : Act → World → Prop} (hi : ops[i]? = some o) (hw : Region.wanted o (yielded ops a.tmps) = true)
  (h : ∀ K' : Act → World → Prop, (∀ a w, K a w → K' a w) → o.wp P a w K' Q) : wpOp P ops Q i K a w := by
 unfold wpOp
 simp only [hi, hw, if_true]
 exact .inl (h K fun _ _ h => h)
theorem wp_store_blk {P : Program} {op : Oper} {a : Act} {w : World} {K : Act → World → Prop} {Q : Exit → Act → World → Prop} (ty : TypeId) (x y : Operand) (ho : op.op = .store ty x y)
  (B o : Nat) (cs new : Array Value) (hx : a.eval x = .pointer (some ⟨B, o, none⟩)) (hy : a.eval y = .agg cs) (t : TypeId) (old : Array Value)
  (h : w.heap[B]? = some (.cells old t (0, 0))) (hl : o + cs.size ≤ old.size) (hn : old.toList.take o ++ cs.toList ++ old.toList.drop (o + cs.size) = new.toList)
  (hi : (P.info? ty).map (·.size) = some cs.size) (h1 : cs.toList.all (·.oneCell') = true)
  (hk : ∀ w', w'.heap[B]? = some (.cells new t (0, 0)) → Only B w w' → K (a.put op.dst undef) w') : op.wp P a w K Q := by
 have hr := run_store_blk (P := P) w B o ty t cs new old h hl hn hi h1
 unfold Oper.wp execOp
 simp only [ho, hx, hy, Sem.run_bind, hr, Result.andThen_ok]
 exact hk _ (setRow_heap w B old new t _ h) (only_setRow w B new)
end Go.Proofs.YtgokmkholjfhbaaGreat

