/-
  errors.Is of a *api.Fault and its number; quintetkeep's Is and Turn.
-/
import Derived.Test.YtehedlgdencboabGreatDoorLxAs
import Derived.Test.YtehedlgdencboabGreatDoorBxW
import Derived.Lib.IfaceEq
namespace Go.Proofs.YtehedlgdencboabGreatDoor
open Go.RowKit Go.Extern.Stop Go.Stop Go.Extern
set_option linter.unusedVariables false
set_option linter.unusedSimpArgs false

theorem noIsF (v : Value) (xT : TypeId) (w : World) : (Instr.typeAssert (.iface 72 v) xT 150 true).run Tryz.prog w = .ok (.tuple #[.nilIface, .bool false]) w := run_typeAssert_lacksB Tryz.underlying150 (by kernel_rfl) (by kernel_rfl) v xT w
theorem hasUnF (v : Value) (xT : TypeId) (w : World) : (Instr.typeAssert (.iface 72 v) xT 145 true).run Tryz.prog w = .ok (.tuple #[.iface 72 v, .bool true]) w := run_typeAssert_hasB Tryz.underlying145 (by kernel_rfl) v xT w
theorem methUn (v : Value) (w : World) : (Go.method 333 72 v "Unwrap").run Tryz.prog w = .ok (139, v) w := by kernel_rfl
theorem eqFE (v u : Value) (w : World) : Sem.run Tryz.prog (binOp .eql 25 (.iface 72 v) (.iface 28 u)) w = .ok (.bool false) w := by kernel_rfl
theorem compE (w : World) : ((ReflectliteType.method fun t => do Rtype.noPackHeld "Comparable" t; Functor.map (fun a : TypeInfo => Value.bool a.comparable) (typeInfo t)) #[.agg #[.pointer (some ⟨9, 28, none⟩)]]).run Tryz.prog w = .ok (.bool true) w := by kernel_rfl
theorem eqEE (c : Int) (w : World) : Sem.run Tryz.prog (binOp .eql 25 (.iface 28 (.int .i64 c)) (.iface 28 (.int .i64 c))) w = .ok (.bool true) w := by
  have h := Go.Lib.run_eql_iface_int (P := Tryz.prog) (k := .i64) w c c Tryz.underlying25 (by kernel_rfl) Tryz.underlying28
  simpa using h
set_option maxRecDepth 20000 in
set_option maxHeartbeats 4000000 in
theorem isHit (F : Nat) (c : Int) (w : World) (hc : w.cell? ⟨F, 0, none⟩ = some (.int .i64 c)) :
    Calls Tryz.prog 28 #[.iface 72 (.pointer (some ⟨F, 0, none⟩)), .iface 28 (.int .i64 c)] w fun ev w' => ev = .returned (.bool true) ∧ w' = w := by
  have h10 := @run_callFunc_extern Tryz.prog 54 _ ReflectliteType.typeOf Tryz.func54 (by kernel_rfl) (by kernel_rfl) (by kernel_rfl) (by kernel_rfl)
  have h32 := @run_callFunc_extern Tryz.prog 145 _ (ReflectliteType.method fun t => do Rtype.noPackHeld "Comparable" t; pure (.bool (← typeInfo t).comparable)) Tryz.func145 (by kernel_rfl) (by kernel_rfl) (by kernel_rfl) (by kernel_rfl)
  have tO := rlTypeOfE
  have cT := compE
  have mC := rlMethodComp
  have nI := noIsF
  have hU := hasUnF
  have mU := methUn
  have e1 := eqFE
  have e2 := eqEE
  go_enter Tryz.func28, Tryz.ntmps28
  go_wp2
  refine wp_loop_rounds 2 ?_
  rw [rounds_succ]
  go_wp2
  rw [rounds_succ]
  go_wp2
  go_ret
  exact ⟨rfl, rfl⟩
/-- A Fault in its block. -/
def Flt (w : World) (F : Nat) (c l k : Int) : Prop := w.heap[F]? = some (.cells #[.int .i64 c, .int .i64 l, .int .i64 k] 76)
theorem Flt.cells {w : World} {F : Nat} {c l k : Int} (h : Flt w F c l k) : w.cell? ⟨F, 0, none⟩ = some (.int .i64 c) ∧ w.cell? ⟨F, 1, none⟩ = some (.int .i64 l) ∧ w.cell? ⟨F, 2, none⟩ = some (.int .i64 k) := ⟨blk_cell h rfl, blk_cell h rfl, blk_cell h rfl⟩
theorem keepNil (l k : Int) (w : World) : Calls Tryz.prog 15 #[.nilIface, .int .i64 0, .int .i64 l, .int .i64 k] w fun e w' => e = .returned (.bool true) ∧ w' = w := by
  go_enter Tryz.func15, Tryz.ntmps15
  go_wp2
  go_ret
  exact ⟨rfl, rfl⟩
theorem asW_size (w : World) (e t : Addr) : (asW w e t).heap.size = w.heap.size + 1 + 1 + 1 + 1 := by unfold asW; simp
theorem asW_blk {w : World} {e : Addr} {B i : Nat} {b : Nat} {o : Obj} (h : w.heap[b]? = some o) (hne : b ≠ B) : (asW w e ⟨B, i, none⟩).heap[b]? = some o := by
  unfold asW
  exact blk_far (blk_alloc (blk_alloc (blk_alloc (blk_alloc h _) _) _) _) hne _
theorem asW_cell {w : World} {e : Addr} {B : Nat} {v : Value} (h : w.cell? ⟨B, 0, none⟩ = some v) : (asW w e ⟨B, 0, none⟩).cell? ⟨B, 0, none⟩ = some (.pointer (some e)) := by
  have hb : B < w.heap.size := World.block_lt_of_cell? _ _ h
  unfold asW
  rw [World.cell?_setCell_same _ _ _ (by
    rw [World.cell?_alloc_lt _ _ _ (by simp; omega), World.cell?_alloc_lt _ _ _ (by simp; omega), World.cell?_alloc_lt _ _ _ (by simp; omega), World.cell?_alloc_lt _ _ _ hb, h])]
theorem asW_below {w : World} {e : Addr} {B i n : Nat} (hn : n ≤ B) (hb : B < w.heap.size) : Below n w (asW w e ⟨B, i, none⟩) := by
  unfold asW
  exact (((((Below.refl n w).alloc (by omega) _).alloc (by simp; omega) _).alloc (by simp; omega) _).alloc (by simp; omega) _).setCell hn _
theorem Hnd.on {w w1 : World} (h : Hnd w) (hb : Below w.heap.size w w1) : Hnd w1 := by
  obtain ⟨tp, p, he⟩ := h.er
  exact ⟨cell_on1 hb h.h, ⟨tp, p, cell_on1 hb he⟩, fun x hx => cell_on1 hb (h.tab x hx)⟩
theorem Hnd.alloc {w : World} (h : Hnd w) (o : Obj) : Hnd (w.alloc o) := h.on ((Below.refl _ _).alloc (Nat.le_refl _) o)
theorem Hnd.lt {w : World} (h : Hnd w) : 8 < w.heap.size := by
  obtain ⟨tp, p, he⟩ := h.er
  have h1 := World.block_lt_of_cell? _ _ (h.tab 0 (by decide))
  have h2 := World.block_lt_of_cell? _ _ he
  have h3 := World.block_lt_of_cell? _ _ h.h
  simp only at h1 h2 h3
  omega
set_option maxRecDepth 20000 in
set_option maxHeartbeats 4000000 in
theorem keepIs (F : Nat) (c l k : Int) (w : World) (hc : c ≠ 0) (hg : Hnd w) (hF : Flt w F c l k) :
    Calls Tryz.prog 15 #[.iface 72 (.pointer (some ⟨F, 0, none⟩)), .int .i64 c, .int .i64 l, .int .i64 k] w fun e w' => e = .returned (.bool true) ∧ Below w.heap.size w w' := by
  have hA := asHit ⟨F, 0, none⟩ ⟨w.heap.size, 0, none⟩ (.pointer none) (w.alloc (.cells #[.pointer none] 72)) (hg.alloc _) (by simp) (by simp)
  have hlt := blk_lt hF
  have hF1 : (asW (w.alloc (.cells #[.pointer none] 72)) ⟨F, 0, none⟩ ⟨w.heap.size, 0, none⟩).heap[F]? = some (.cells #[.int .i64 c, .int .i64 l, .int .i64 k] 76) := asW_blk (blk_alloc hF _) (by omega)
  obtain ⟨c0, c1, c2⟩ := Flt.cells hF1
  have hp := asW_cell (w := w.alloc (.cells #[.pointer none] 72)) (e := ⟨F, 0, none⟩) (B := w.heap.size) (v := .pointer none) (by simp)
  have HB : Hid (Below w.heap.size w (asW (w.alloc (.cells #[.pointer none] 72)) ⟨F, 0, none⟩ ⟨w.heap.size, 0, none⟩)) := ((Below.refl _ _).alloc (Nat.le_refl _) _).trans (asW_below (Nat.le_refl _) (by simp))
  generalize hW : asW (w.alloc (.cells #[.pointer none] 72)) ⟨F, 0, none⟩ ⟨w.heap.size, 0, none⟩ = W at *
  have hI := isHit F c W c0
  clear hW hF1
  go_enter Tryz.func15, Tryz.ntmps15
  go_wp2_with (first | (go_at_call 27; refine hA.mono ?_; rintro e w1 ⟨rfl, hw1⟩; obtain rfl := hw1) | (go_at_call 28; refine hI.mono ?_; rintro e w2 ⟨rfl, hw2⟩; obtain rfl := hw2))
  go_ret
  exact ⟨rfl, HB.out⟩
/-- All is as it was, but for one block and what is new. -/
structure But (B : Nat) (w w' : World) : Prop where
  os : w'.os = w.os
  tape : w'.tape = w.tape
  output : w'.output = w.output
  size : w.heap.size ≤ w'.heap.size
  block : ∀ k, k < w.heap.size → k ≠ B → w'.heap[k]? = w.heap[k]?
theorem But.blk {B : Nat} {w w' : World} (h : But B w w') {b : Nat} {o : Obj} (hb : w.heap[b]? = some o) (hne : b ≠ B) : w'.heap[b]? = some o := by rw [h.block b (blk_lt hb) hne]; exact hb
theorem But.below {B n : Nat} {w w' : World} (h : But B w w') (hn : n ≤ B) (hw : n ≤ w.heap.size) : Below n w w' := ⟨h.os, h.tape, h.output, h.size, fun k hk => h.block k (by omega) (by omega)⟩
end Go.Proofs.YtehedlgdencboabGreatDoor
